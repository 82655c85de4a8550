/-
  OUR OWN TEXT. The law FnLoopStrict, for every input: the call returns true, and each argument reads as it did. Texts of ours, joined, so that the claim keeps to its number of files. Conditions: none but the row's own.
-/
import Derived.Test.YtfibkhepjpehpaaGreatDoorLoopS
import Derived.Test.YtfibkhepjpehpaaGreatDoorGeoParts
import Derived.Test.YtfibkhepjpehpaaGreatDoorEqPts
import Derived.Test.YtfibkhepjpehpaaGreatDoorOk
import Derived.Test.YtfibkhepjpehpaaGreatDoorSOk
import Derived.Test.YtfibkhepjpehpaaGreatDoorTextW
import Derived.Test.YtfibkhepjpehpaaGreatDoorLuL
import Derived.Test.YtfibkhepjpehpaaGreatDoorReader
import Derived.Test.YtfibkhepjpehpaaGreatDoorRdText
import Derived.Test.YtfibkhepjpehpaaGreatDoorLuSame
import Derived.Test.YtfibkhepjpehpaaGreatDoorDrawL
import Derived.Deep.RegionHeld3
import Derived.Test.YtfibkhepjpehpaaGreatDoorItoa
import Derived.Test.YtfibkhepjpehpaaGreatDoorCards
import Derived.Test.YtfibkhepjpehpaaGreatDoorTie
import Derived.ProofKit
import Derived.OpenShut
import Derived.ShutString
import Derived.ChangeOld
import Derived.Below
import Derived.LaidMore
import Derived.MakeChecks
import Derived.Stop.Joined
import Derived.Stop.LaidErr
import Derived.Lib.LaidTab
import Derived.Test.YtfibkhepjpehpaaGreatDoorPlcRead
import Derived.Shelf.Vars
import Derived.HandedShaped
import Derived.Lay
import Derived.Lib.SmallJoins
namespace Go.Proofs.YtfibkhepjpehpaaGreatDoor

/-- To the right of the way from p up to q, at its height. -/
def rgt (p q v : P2) : Int := b2i (decide (p.2 < v.2) && decide (v.2 ≤ q.2) && decide (crs p.1 p.2 q.1 q.2 v.1 v.2 < 0))
theorem crs_first (a b p q : P2) : crs p.1 p.2 q.1 q.2 a.1 a.2 * (b.2 - a.2) = crs a.1 a.2 b.1 b.2 q.1 q.2 * (p.2 - a.2) - crs a.1 a.2 b.1 b.2 p.1 p.2 * (q.2 - a.2) := by unfold crs; grind
theorem crs_last (a b p q : P2) : crs p.1 p.2 q.1 q.2 b.1 b.2 * (b.2 - a.2) = crs a.1 a.2 b.1 b.2 q.1 q.2 * (p.2 - b.2) - crs a.1 a.2 b.1 b.2 p.1 p.2 * (q.2 - b.2) := by unfold crs; grind
theorem meet_alt0 (ax ay bx b_y cx cy ex ey : Int) : meetC ax ay bx b_y cx cy ex ey = (splB ax ay bx b_y cx cy ex ey && splB cx cy ex ey ax ay bx b_y || hasC ax ay bx b_y cx cy || hasC ax ay bx b_y ex ey || hasC cx cy ex ey ax ay || hasC cx cy ex ey bx b_y) := by
  unfold meetC endB
  cases splB ax ay bx b_y cx cy ex ey <;> cases splB cx cy ex ey ax ay bx b_y <;> cases hasC ax ay bx b_y cx cy <;> cases hasC ax ay bx b_y ex ey <;> cases hasC cx cy ex ey ax ay <;> cases hasC cx cy ex ey bx b_y <;> rfl
theorem meet_false {a b c d : P2} (h : meetP a b c d = false) : hasP a b c = false ∧ hasP a b d = false ∧ hasP c d a = false ∧ hasP c d b = false ∧ (splB a.1 a.2 b.1 b.2 c.1 c.2 d.1 d.2 && splB c.1 c.2 d.1 d.2 a.1 a.2 b.1 b.2) = false := by
  unfold meetP at h; rw [meet_alt0] at h
  simp only [Bool.or_eq_false_iff] at h
  obtain ⟨⟨⟨⟨h1, h2⟩, h3⟩, h4⟩, h5⟩ := h
  exact ⟨h2, h3, h4, h5, h1⟩
theorem mul_pos_of {x y : Int} (h : 0 < x * y) (hy : 0 < y) : 0 < x := by
  rcases Int.lt_or_le 0 x with h1 | h1
  · exact h1
  · have := Int.mul_nonpos_of_nonpos_of_nonneg h1 (Int.le_of_lt hy); omega
theorem mul_neg_of {x y : Int} (h : x * y < 0) (hy : 0 < y) : x < 0 := by
  rcases Int.lt_or_le x 0 with h1 | h1
  · exact h1
  · have := Int.mul_nonneg h1 (Int.le_of_lt hy); omega
theorem mul_pos_of' {x y : Int} (h : 0 < x * y) (hy : y < 0) : x < 0 := by
  rcases Int.lt_or_le x 0 with h1 | h1
  · exact h1
  · have := Int.mul_nonpos_of_nonneg_of_nonpos h1 (Int.le_of_lt hy); omega
theorem mul_neg_of' {x y : Int} (h : x * y < 0) (hy : y < 0) : 0 < x := by
  rcases Int.lt_or_le 0 x with h1 | h1
  · exact h1
  · have := Int.mul_nonneg_of_nonpos_of_nonpos h1 (Int.le_of_lt hy); omega
/-- The one that is within the heights of the other: both of its ends are to the same side of that. -/
theorem same_side {a b p q : P2} (h1 : a.2 ≤ p.2) (h2 : p.2 ≤ q.2) (h3 : q.2 < b.2) (hm : meetP a b p q = false) :
    (0 < crs a.1 a.2 b.1 b.2 p.1 p.2 ∧ 0 < crs a.1 a.2 b.1 b.2 q.1 q.2) ∨ (crs a.1 a.2 b.1 b.2 p.1 p.2 < 0 ∧ crs a.1 a.2 b.1 b.2 q.1 q.2 < 0) := by
  obtain ⟨m1, m2, m3, m4, m5⟩ := meet_false hm
  have n1 : crs a.1 a.2 b.1 b.2 p.1 p.2 ≠ 0 := fun e => by have := has_of_between e h1 (by omega) (by omega); unfold hasP at m1; rw [this] at m1; cases m1
  have n2 : crs a.1 a.2 b.1 b.2 q.1 q.2 ≠ 0 := fun e => by have := has_of_between e (by omega) (by omega) (by omega); unfold hasP at m2; rw [this] at m2; cases m2
  have e1 := crs_first a b p q
  have e2 := crs_last a b p q
  have e3 : crs p.1 p.2 q.1 q.2 a.1 a.2 = 0 → p.2 = q.2 → p.2 = a.2 → dt a.1 a.2 p.1 p.2 q.1 q.2 * ((b.2 - a.2) * (b.2 - a.2)) = crs a.1 a.2 b.1 b.2 p.1 p.2 * crs a.1 a.2 b.1 b.2 q.1 q.2 := fun _ k1 k2 => by
    unfold dt crs; rw [← k1, k2]; grind
  have hd : 0 < b.2 - a.2 := by omega
  generalize hsp : crs a.1 a.2 b.1 b.2 p.1 p.2 = sp at *
  generalize hsq : crs a.1 a.2 b.1 b.2 q.1 q.2 = sq at *
  generalize hta : crs p.1 p.2 q.1 q.2 a.1 a.2 = ta at *
  generalize htb : crs p.1 p.2 q.1 q.2 b.1 b.2 = tb at *
  have fin : ∀ (x1 : (sp < 0 ∧ 0 < sq) ∨ (0 < sp ∧ sq < 0)) (x2 : (ta < 0 ∧ 0 < tb) ∨ (0 < ta ∧ tb < 0)), False := fun x1 x2 => by
    have k1 : splB a.1 a.2 b.1 b.2 p.1 p.2 q.1 q.2 = true := by rw [spl_iff, hsp, hsq]; exact x1
    have k2 : splB p.1 p.2 q.1 q.2 a.1 a.2 b.1 b.2 = true := by rw [spl_iff, hta, htb]; exact x2
    rw [k1, k2] at m5; cases m5
  have on : ta = 0 → p.2 = q.2 → p.2 = a.2 → sp * sq < 0 → False := fun k0 k1 k2 k3 => by
    have := e3 k0 k1 k2
    have : dt a.1 a.2 p.1 p.2 q.1 q.2 ≤ 0 := by
      rcases Int.lt_or_le 0 (dt a.1 a.2 p.1 p.2 q.1 q.2) with h | h
      · have := Int.mul_pos h (Int.mul_pos hd hd); omega
      · exact h
    have : hasP p q a = true := by unfold hasP; rw [hasC_iff]; exact ⟨by rw [hta]; exact k0, this⟩
    rw [this] at m3; cases m3
  rcases Int.lt_or_gt_of_ne n1 with s1 | s1 <;> rcases Int.lt_or_gt_of_ne n2 with s2 | s2
  · exact .inr ⟨s1, s2⟩
  · exfalso
    have p1 : 0 ≤ sq * (p.2 - a.2) := Int.mul_nonneg (by omega) (by omega)
    have p2 : sp * (q.2 - a.2) ≤ 0 := Int.mul_nonpos_of_nonpos_of_nonneg (by omega) (by omega)
    have p3 : sq * (p.2 - b.2) < 0 := Int.mul_neg_of_pos_of_neg s2 (by omega)
    have p4 : 0 < sp * (q.2 - b.2) := Int.mul_pos_of_neg_of_neg s1 (by omega)
    have tb' : tb < 0 := mul_neg_of (by omega) hd
    rcases Int.lt_or_le 0 ta with h | h
    · exact fin (.inl ⟨s1, s2⟩) (.inr ⟨h, tb'⟩)
    · have h0 : ta * (b.2 - a.2) ≤ 0 := Int.mul_nonpos_of_nonpos_of_nonneg h (by omega)
      have z1 : sq * (p.2 - a.2) = 0 := by omega
      have z2 : sp * (q.2 - a.2) = 0 := by omega
      have z3 : ta * (b.2 - a.2) = 0 := by omega
      have y1 : p.2 - a.2 = 0 := (Int.mul_eq_zero.1 z1).resolve_left n2
      have y2 : q.2 - a.2 = 0 := (Int.mul_eq_zero.1 z2).resolve_left n1
      have y3 : ta = 0 := (Int.mul_eq_zero.1 z3).resolve_right (by omega)
      exact on y3 (by omega) (by omega) (Int.mul_neg_of_neg_of_pos s1 s2)
  · exfalso
    have p1 : sq * (p.2 - a.2) ≤ 0 := Int.mul_nonpos_of_nonpos_of_nonneg (by omega) (by omega)
    have p2 : 0 ≤ sp * (q.2 - a.2) := Int.mul_nonneg (by omega) (by omega)
    have p3 : 0 < sq * (p.2 - b.2) := Int.mul_pos_of_neg_of_neg s2 (by omega)
    have p4 : sp * (q.2 - b.2) < 0 := Int.mul_neg_of_pos_of_neg s1 (by omega)
    have tb' : 0 < tb := mul_pos_of (by omega) hd
    rcases Int.lt_or_le ta 0 with h | h
    · exact fin (.inr ⟨s1, s2⟩) (.inl ⟨h, tb'⟩)
    · have h0 : 0 ≤ ta * (b.2 - a.2) := Int.mul_nonneg h (by omega)
      have z1 : sq * (p.2 - a.2) = 0 := by omega
      have z2 : sp * (q.2 - a.2) = 0 := by omega
      have z3 : ta * (b.2 - a.2) = 0 := by omega
      have y1 : p.2 - a.2 = 0 := (Int.mul_eq_zero.1 z1).resolve_left n2
      have y2 : q.2 - a.2 = 0 := (Int.mul_eq_zero.1 z2).resolve_left n1
      have y3 : ta = 0 := (Int.mul_eq_zero.1 z3).resolve_right (by omega)
      exact on y3 (by omega) (by omega) (Int.mul_neg_of_pos_of_neg s1 s2)
  · exact .inl ⟨s1, s2⟩
/-- One begins within the heights of the other and ends above: p is left of ab just if b is right of pq. -/
theorem cross_side {a b p q : P2} (h1 : a.2 ≤ p.2) (h2 : p.2 ≤ b.2) (h3 : b.2 ≤ q.2) (hab : a.2 < b.2) (hpq : p.2 < q.2) (hm : meetP a b p q = false) :
    (0 < crs a.1 a.2 b.1 b.2 p.1 p.2 ∧ crs p.1 p.2 q.1 q.2 b.1 b.2 < 0) ∨ (crs a.1 a.2 b.1 b.2 p.1 p.2 < 0 ∧ 0 < crs p.1 p.2 q.1 q.2 b.1 b.2) := by
  obtain ⟨m1, m2, m3, m4, m5⟩ := meet_false hm
  have n1 : crs a.1 a.2 b.1 b.2 p.1 p.2 ≠ 0 := fun e => by have := has_of_between e h1 (by omega) (by omega); unfold hasP at m1; rw [this] at m1; cases m1
  have n2 : crs p.1 p.2 q.1 q.2 b.1 b.2 ≠ 0 := fun e => by have := has_of_between e (by omega) (by omega) (by omega); unfold hasP at m4; rw [this] at m4; cases m4
  have e1 := crs_first a b p q
  have e2 := crs_last a b p q
  have hd : 0 < b.2 - a.2 := by omega
  generalize hsp : crs a.1 a.2 b.1 b.2 p.1 p.2 = sp at *
  generalize hsq : crs a.1 a.2 b.1 b.2 q.1 q.2 = sq at *
  generalize hta : crs p.1 p.2 q.1 q.2 a.1 a.2 = ta at *
  generalize htb : crs p.1 p.2 q.1 q.2 b.1 b.2 = tb at *
  have fin : ∀ (x1 : (sp < 0 ∧ 0 < sq) ∨ (0 < sp ∧ sq < 0)) (x2 : (ta < 0 ∧ 0 < tb) ∨ (0 < ta ∧ tb < 0)), False := fun x1 x2 => by
    have k1 : splB a.1 a.2 b.1 b.2 p.1 p.2 q.1 q.2 = true := by rw [spl_iff, hsp, hsq]; exact x1
    have k2 : splB p.1 p.2 q.1 q.2 a.1 a.2 b.1 b.2 = true := by rw [spl_iff, hta, htb]; exact x2
    rw [k1, k2] at m5; cases m5
  rcases Int.lt_or_gt_of_ne n1 with s1 | s1 <;> rcases Int.lt_or_gt_of_ne n2 with s2 | s2
  · exfalso
    have p0 : tb * (b.2 - a.2) < 0 := Int.mul_neg_of_neg_of_pos s2 hd
    rcases Int.lt_or_eq_of_le h2 with h2 | h2
    case inr =>
      have z1 : sq * (p.2 - b.2) = 0 := by rw [h2, Int.sub_self, Int.mul_zero]
      have z2 : sp * (q.2 - b.2) < 0 := Int.mul_neg_of_neg_of_pos s1 (by omega)
      omega
    have p1 : sp * (q.2 - b.2) ≤ 0 := Int.mul_nonpos_of_nonpos_of_nonneg (by omega) (by omega)
    have s3 : 0 < sq := mul_neg_of' (y := p.2 - b.2) (by omega) (by omega)
    have p2 : 0 ≤ sq * (p.2 - a.2) := Int.mul_nonneg (by omega) (by omega)
    have p3 : sp * (q.2 - a.2) < 0 := Int.mul_neg_of_neg_of_pos s1 (by omega)
    have s4 : 0 < ta := mul_pos_of (y := b.2 - a.2) (by omega) hd
    exact fin (.inl ⟨s1, s3⟩) (.inr ⟨s4, s2⟩)
  · exact .inr ⟨s1, s2⟩
  · exact .inl ⟨s1, s2⟩
  · exfalso
    have p0 : 0 < tb * (b.2 - a.2) := Int.mul_pos s2 hd
    rcases Int.lt_or_eq_of_le h2 with h2 | h2
    case inr =>
      have z1 : sq * (p.2 - b.2) = 0 := by rw [h2, Int.sub_self, Int.mul_zero]
      have z2 : 0 < sp * (q.2 - b.2) := Int.mul_pos s1 (by omega)
      omega
    have p1 : 0 ≤ sp * (q.2 - b.2) := Int.mul_nonneg (by omega) (by omega)
    have s3 : sq < 0 := mul_pos_of' (y := p.2 - b.2) (by omega) (by omega)
    have p2 : sq * (p.2 - a.2) ≤ 0 := Int.mul_nonpos_of_nonpos_of_nonneg (by omega) (by omega)
    have p3 : 0 < sp * (q.2 - a.2) := Int.mul_pos s1 (by omega)
    have s4 : ta < 0 := mul_neg_of (y := b.2 - a.2) (by omega) hd
    exact fin (.inr ⟨s1, s3⟩) (.inl ⟨s4, s2⟩)
def neP (p : P2) : P2 := (- p.1, - p.2)
theorem crs_ne (a b p : P2) : crs (neP a).1 (neP a).2 (neP b).1 (neP b).2 (neP p).1 (neP p).2 = crs a.1 a.2 b.1 b.2 p.1 p.2 := by unfold crs neP; grind
theorem dt_ne (a b p : P2) : dt (neP a).1 (neP a).2 (neP b).1 (neP b).2 (neP p).1 (neP p).2 = dt a.1 a.2 b.1 b.2 p.1 p.2 := by unfold dt neP; grind
theorem meetP_ne (a b c d : P2) : meetP (neP a) (neP b) (neP c) (neP d) = meetP a b c d := by
  unfold meetP meetC endB splB tn hasC; simp only [crs_ne, dt_ne]
/-- ONE EDGE AND A WAY THAT DOES NOT MEET IT. -/
theorem pass_way {a b p q : P2} (hpq : p.2 ≤ q.2) (hm : meetP a b p q = false) : (b2i (passP a b p) + b2i (passP a b q) + rgt p q a + rgt p q b) % 2 = 0 := by
  have wlog : ∀ a b : P2, a.2 ≤ b.2 → meetP a b p q = false → (b2i (passP a b p) + b2i (passP a b q) + rgt p q a + rgt p q b) % 2 = 0 := fun a b hle hm => by
    rw [pass_cases a b p hle, pass_cases a b q hle]
    unfold rgt
    by_cases c1 : b.2 ≤ p.2
    · have k1 : ¬ p.2 < b.2 := by omega
      have k2 : ¬ q.2 < b.2 := by omega
      have k3 : ¬ p.2 < a.2 := by omega
      simp [k1, k2, k3, b2i]
    by_cases c2 : q.2 < a.2
    · have k1 : ¬ a.2 ≤ p.2 := by omega
      have k2 : ¬ a.2 ≤ q.2 := by omega
      have k3 : ¬ b.2 ≤ q.2 := by omega
      simp [k1, k2, k3, b2i]
    have k1 : p.2 < b.2 := by omega
    have k2 : a.2 ≤ q.2 := by omega
    by_cases c3 : a.2 ≤ p.2
    · have k3 : ¬ p.2 < a.2 := by omega
      by_cases c4 : q.2 < b.2
      · have k4 : ¬ b.2 ≤ q.2 := by omega
        rcases same_side c3 hpq c4 hm with ⟨s1, s2⟩ | ⟨s1, s2⟩
        · simp [k1, k2, k3, k4, c3, c4, s1, s2, b2i]
        · have s3 : ¬ 0 < crs a.1 a.2 b.1 b.2 p.1 p.2 := by omega
          have s4 : ¬ 0 < crs a.1 a.2 b.1 b.2 q.1 q.2 := by omega
          simp [k3, k4, s3, s4, b2i]
      · have k4 : b.2 ≤ q.2 := by omega
        rcases cross_side c3 (by omega) k4 (by omega) (by omega) hm with ⟨s1, s2⟩ | ⟨s1, s2⟩
        · simp [k1, k3, k4, c3, c4, s1, s2, b2i]
        · have s3 : ¬ 0 < crs a.1 a.2 b.1 b.2 p.1 p.2 := by omega
          have s4 : ¬ crs p.1 p.2 q.1 q.2 b.1 b.2 < 0 := by omega
          simp [k3, c4, s3, s4, b2i]
    · have k3 : p.2 < a.2 := by omega
      by_cases c4 : q.2 < b.2
      · have k4 : ¬ b.2 ≤ q.2 := by omega
        have hc := cross_side (a := neP b) (b := neP a) (p := neP q) (q := neP p) (by simp [neP]; omega) (by simp [neP]; omega) (by simp [neP]; omega) (by simp [neP]; omega) (by simp [neP]; omega) (by rw [meetP_ne, meetP_back1, meetP_back2]; exact hm)
        rw [crs_ne, crs_ne, crs_back, crs_back p.1] at hc
        rcases hc with ⟨s1, s2⟩ | ⟨s1, s2⟩
        · have s3 : ¬ 0 < crs a.1 a.2 b.1 b.2 q.1 q.2 := by omega
          have s4 : ¬ crs p.1 p.2 q.1 q.2 a.1 a.2 < 0 := by omega
          simp [c3, k4, s3, s4, b2i]
        · have s3 : 0 < crs a.1 a.2 b.1 b.2 q.1 q.2 := by omega
          have s4 : crs p.1 p.2 q.1 q.2 a.1 a.2 < 0 := by omega
          simp [k2, k3, k4, c3, c4, s3, s4, b2i]
      · have k4 : b.2 ≤ q.2 := by omega
        have hs := same_side (a := neP q) (b := neP p) (p := neP b) (q := neP a) (by simp [neP]; omega) (by simp [neP]; omega) (by simp [neP]; omega) (by rw [meetP_ne, meetP_back1, meetP_back2, meetP_comm]; exact hm)
        rw [crs_ne, crs_ne, crs_back, crs_back p.1 p.2 q.1 q.2 a.1] at hs
        rcases hs with ⟨s1, s2⟩ | ⟨s1, s2⟩
        · have s3 : crs p.1 p.2 q.1 q.2 a.1 a.2 < 0 := by omega
          have s4 : crs p.1 p.2 q.1 q.2 b.1 b.2 < 0 := by omega
          simp [k1, k2, k3, k4, c3, c4, s3, s4, b2i]
        · have s3 : ¬ crs p.1 p.2 q.1 q.2 a.1 a.2 < 0 := by omega
          have s4 : ¬ crs p.1 p.2 q.1 q.2 b.1 b.2 < 0 := by omega
          simp [c3, c4, s3, s4, b2i]
  rcases Int.le_total a.2 b.2 with hle | hle
  · exact wlog a b hle hm
  · have := wlog b a hle (by rw [meetP_back1]; exact hm)
    rw [passP_back a b p, passP_back a b q] at this
    omega
/-- Who meets no edge stays where one is. -/
theorem inI_way {l : List P2} {p q : P2} (h : ∀ i, i < l.length → meetP (ptAt l i) (ptAt l (nxt l i)) p q = false) : inI l p = inI l q ∧ onL l p = false ∧ onL l q = false := by
  have o1 : onL l p = false := by
    rw [← Bool.not_eq_true, onL_iff]; rintro ⟨i, hi, e⟩
    have := (meet_false (h i hi)).1; rw [e] at this; cases this
  have o2 : onL l q = false := by
    rw [← Bool.not_eq_true, onL_iff]; rintro ⟨i, hi, e⟩
    have := (meet_false (h i hi)).2.1; rw [e] at this; cases this
  refine ⟨inI_of (o1.trans o2.symm) (fun _ => ?_), o1, o2⟩
  rcases Int.le_total p.2 q.2 with hle | hle
  · exact sumE_even (g := rgt p q) fun i hi => pass_way hle (h i hi)
  · rw [Int.add_comm]
    exact sumE_even (g := rgt q p) fun i hi => pass_way hle (by rw [meetP_back2]; exact h i hi)
theorem inI_pm {l : List P2} {p : P2} (h : onL l p = false) : inI l p = 1 ∨ inI l p = -1 := by
  rw [inI_eq, h]; simp only [Bool.false_eq_true, if_false]; split
  · exact .inr rfl
  · exact .inl rfl
theorem inI_zero (l : List P2) (p : P2) : inI l p = 0 ↔ onL l p = true := by
  cases h : onL l p
  · rcases inI_pm h with e | e <;> rw [e] <;> simp
  · rw [inI_eq, h]; simp

/-! ### Its own points; beyond -/
theorem onL_corner {l : List P2} {i : Nat} (hi : i < l.length) : onL l (ptAt l i) = true := (onL_iff _ _).2 ⟨i, hi, hasP_first _ _⟩
theorem inI_none {l : List P2} {p : P2} (h0 : onL l p = false) (h : (cntP l p) % 2 = 0) : inI l p = -1 := by rw [inI_eq, h0]; simp [h]
theorem sumE_zero {f : P2 → P2 → Int} {l : List P2} (h : ∀ i, i < l.length → f (ptAt l i) (ptAt l (nxt l i)) = 0) : sumE f l = 0 := by
  have : ∀ n, n ≤ l.length → sumF (fun i => f (ptAt l i) (ptAt l (nxt l i))) n = 0 := fun n => by
    induction n with
    | zero => intro _; rfl
    | succ n ih => intro hn; simp only [sumF]; rw [ih (by omega), h n (by omega)]; rfl
  exact this _ (Nat.le_refl _)
theorem pass_right {a b p : P2} (h1 : a.1 < p.1) (h2 : b.1 < p.1) : passP a b p = false := by
  have wlog : ∀ a b : P2, a.2 ≤ b.2 → a.1 < p.1 → b.1 < p.1 → passP a b p = false := fun a b hle h1 h2 => by
    rw [pass_cases a b p hle, ← Bool.not_eq_true]
    simp only [Bool.and_eq_true, decide_eq_true_eq]
    rintro ⟨⟨k1, k2⟩, k3⟩
    have hr := crs_rel a b p
    have q1 : (a.1 - p.1) * (b.2 - p.2) < 0 := Int.mul_neg_of_neg_of_pos (by omega) (by omega)
    have q2 : 0 ≤ (b.1 - p.1) * (a.2 - p.2) := Int.mul_nonneg_of_nonpos_of_nonpos (by omega) (by omega)
    omega
  rcases Int.le_total a.2 b.2 with hle | hle
  · exact wlog a b hle h1 h2
  · rw [← passP_back]; exact wlog b a hle h2 h1
theorem has_box {a b p : P2} (h : hasP a b p = true) : (min a.1 b.1 ≤ p.1 ∧ p.1 ≤ max a.1 b.1) ∧ (min a.2 b.2 ≤ p.2 ∧ p.2 ≤ max a.2 b.2) := by
  unfold hasP at h; rw [hasC_iff] at h
  obtain ⟨hc, hd⟩ := h
  unfold crs at hc; unfold dt at hd
  generalize a.1 = ax at *; generalize a.2 = ay at *; generalize b.1 = bx at *; generalize b.2 = b_y at *; generalize p.1 = px at *; generalize p.2 = py at *
  have hx : (ax - px) * (bx - px) ≤ 0 ∧ (ay - py) * (b_y - py) ≤ 0 := by
    have e : (ax - px) * (b_y - py) = (ay - py) * (bx - px) := by grind
    have e2 : ((ax - px) * (bx - px)) * ((ay - py) * (b_y - py)) = ((ax - px) * (b_y - py)) * ((ax - px) * (b_y - py)) := by grind
    have e3 := sq_nonneg ((ax - px) * (b_y - py))
    rcases Int.lt_or_le 0 ((ax - px) * (bx - px)) with h1 | h1
    · exfalso
      rcases Int.lt_or_le 0 ((ay - py) * (b_y - py)) with h2 | h2
      · omega
      · have : ((ax - px) * (bx - px)) * ((ay - py) * (b_y - py)) ≤ 0 := Int.mul_nonpos_of_nonneg_of_nonpos (by omega) h2
        have z : (ay - py) * (b_y - py) = 0 := by
          rcases Int.lt_or_eq_of_le h2 with h3 | h3
          · have := Int.mul_neg_of_pos_of_neg h1 h3; omega
          · exact h3
        omega
    · rcases Int.lt_or_le 0 ((ay - py) * (b_y - py)) with h2 | h2
      · exfalso
        have : ((ax - px) * (bx - px)) * ((ay - py) * (b_y - py)) ≤ 0 := Int.mul_nonpos_of_nonpos_of_nonneg h1 (by omega)
        have z : (ax - px) * (bx - px) = 0 := by
          rcases Int.lt_or_eq_of_le h1 with h3 | h3
          · have := Int.mul_neg_of_neg_of_pos h3 h2; omega
          · exact h3
        omega
      · exact ⟨h1, h2⟩
  have bet : ∀ x y z : Int, (x - z) * (y - z) ≤ 0 → min x y ≤ z ∧ z ≤ max x y := fun x y z h => by
    rcases Int.lt_or_le z x with h1 | h1 <;> rcases Int.lt_or_le z y with h2 | h2
    · have := Int.mul_pos (a := x - z) (b := y - z) (by omega) (by omega); omega
    · omega
    · omega
    · rcases Int.lt_or_eq_of_le h1 with h3 | h3
      · rcases Int.lt_or_eq_of_le h2 with h4 | h4
        · have := Int.mul_pos_of_neg_of_neg (a := x - z) (b := y - z) (by omega) (by omega); omega
        · omega
      · omega
  exact ⟨bet _ _ _ hx.1, bet _ _ _ hx.2⟩
/-- Beyond all points one is beyond. -/
theorem inI_beyond {l : List P2} {p : P2} (h : (∀ i, i < l.length → p.1 < (ptAt l i).1) ∨ (∀ i, i < l.length → (ptAt l i).1 < p.1) ∨ (∀ i, i < l.length → p.2 < (ptAt l i).2) ∨ (∀ i, i < l.length → (ptAt l i).2 < p.2)) : inI l p = -1 := by
  have hn : ∀ i, i < l.length → nxt l i < l.length := fun i hi => nxt_lt (by omega)
  have h0 : onL l p = false := by
    rw [← Bool.not_eq_true, onL_iff]; rintro ⟨i, hi, e⟩
    have := has_box e
    rcases h with h | h | h | h <;> (have k1 := h i hi; have k2 := h _ (hn i hi); omega)
  refine inI_none h0 ?_
  rcases h with h | h | h | h
  · have e := sumE_even (l := l) (f := fun a b => b2i (passP a b p)) (f' := fun a b => b2i (passP (mirP a) (mirP b) (mirP p))) (g := fun a => b2i (decide (a.2 ≤ p.2))) fun i hi => by
      have h1 := pass_side (onL_not h0 hi)
      have h2 := strad_tele (ptAt l i) (ptAt l (nxt l i)) p
      omega
    have z : sumE (fun a b => b2i (passP (mirP a) (mirP b) (mirP p))) l = 0 := sumE_zero fun i hi => by
      rw [pass_right (by simp only [mirP]; have := h i hi; omega) (by simp only [mirP]; have := h _ (hn i hi); omega)]; rfl
    unfold cntP; omega
  · have : cntP l p = 0 := sumE_zero fun i hi => by rw [pass_right (h i hi) (h _ (hn i hi))]; rfl
    omega
  · have : cntP l p = 0 := sumE_zero fun i hi => by
      have k1 := h i hi
      have k2 := h _ (hn i hi)
      have n1 : ¬ (ptAt l i).2 ≤ p.2 := by omega
      have n2 : ¬ (ptAt l (nxt l i)).2 ≤ p.2 := by omega
      unfold passP; split <;> simp [n1, n2, b2i]
    omega
  · have : cntP l p = 0 := sumE_zero fun i hi => by
      have k1 := h i hi
      have k2 := h _ (hn i hi)
      have n1 : ¬ p.2 < (ptAt l i).2 := by omega
      have n2 : ¬ p.2 < (ptAt l (nxt l i)).2 := by omega
      unfold passP; split <;> simp [n1, n2, b2i]
    omega
end Go.Proofs.YtfibkhepjpehpaaGreatDoor
namespace Go.Proofs.YtfibkhepjpehpaaGreatDoor
theorem at_tail (c : P2) (m : List P2) (i : Nat) : ptAt (c :: m) (i + 1) = ptAt m i := by simp [ptAt]
theorem at_head (c : P2) (m : List P2) : ptAt (c :: m) 0 = c := by simp [ptAt]
theorem nxt_tail (c : P2) (m : List P2) {i : Nat} (h : i < m.length) : nxt (c :: m) i = i + 1 := by
  unfold nxt; rw [List.length_cons]; exact Nat.mod_eq_of_lt (by omega)
theorem nxt_end (c : P2) (m : List P2) : nxt (c :: m) m.length = 0 := by unfold nxt; rw [List.length_cons, Nat.mod_self]
theorem nxt_in {m : List P2} {i : Nat} (h : i + 1 < m.length) : nxt m i = i + 1 := Nat.mod_eq_of_lt h
theorem nxt_out {m : List P2} {i : Nat} (h : i + 1 = m.length) : nxt m i = 0 := by unfold nxt; rw [h, Nat.mod_self]
/-- In line, and neither goes back: between. -/
theorem between {a c b : P2} (hac : a ≠ c) (hcb : c ≠ b) (h0 : crs a.1 a.2 c.1 c.2 b.1 b.2 = 0) (h1 : hasP a c b = false) (h2 : hasP c b a = false) : hasP a b c = true ∧ a ≠ b := by
  have hne : a ≠ b := fun e => by subst e; rw [hasP_first] at h1; cases h1
  have d1 : ¬ (a.1 = c.1 ∧ a.2 = c.2) := fun ⟨e1, e2⟩ => hac (Prod.ext e1 e2)
  have d2 : ¬ (c.1 = b.1 ∧ c.2 = b.2) := fun ⟨e1, e2⟩ => hcb (Prod.ext e1 e2)
  refine ⟨?_, hne⟩
  unfold hasP at *
  rw [hasC_iff]
  have e1 : crs a.1 a.2 b.1 b.2 c.1 c.2 = 0 := by unfold crs at *; grind
  have e2 : crs c.1 c.2 b.1 b.2 a.1 a.2 = 0 := by unfold crs at *; grind
  refine ⟨e1, ?_⟩
  have n1 : ¬ dt b.1 b.2 a.1 a.2 c.1 c.2 ≤ 0 := fun h => by
    have : hasC a.1 a.2 c.1 c.2 b.1 b.2 = true := (hasC_iff _ _ _ _ _ _).2 ⟨h0, h⟩
    rw [this] at h1; cases h1
  have n2 : ¬ dt a.1 a.2 c.1 c.2 b.1 b.2 ≤ 0 := fun h => by
    have : hasC c.1 c.2 b.1 b.2 a.1 a.2 = true := (hasC_iff _ _ _ _ _ _).2 ⟨e2, h⟩
    rw [this] at h2; cases h2
  have p1 := dt_self_pos d1
  have p2 := dt_self_pos d2
  -- (ca·cb)(ab²) = .. : by Lagrange in line
  have k : dt c.1 c.2 a.1 a.2 b.1 b.2 * dt c.1 c.2 a.1 a.2 b.1 b.2 = dt a.1 a.2 c.1 c.2 c.1 c.2 * dt c.1 c.2 b.1 b.2 b.1 b.2 := by
    unfold dt crs at *; grind
  have s1 : dt a.1 a.2 c.1 c.2 b.1 b.2 = dt a.1 a.2 c.1 c.2 c.1 c.2 - dt c.1 c.2 a.1 a.2 b.1 b.2 := by unfold dt; grind
  have s2 : dt b.1 b.2 a.1 a.2 c.1 c.2 = dt c.1 c.2 b.1 b.2 b.1 b.2 - dt c.1 c.2 a.1 a.2 b.1 b.2 := by unfold dt; grind
  generalize dt c.1 c.2 a.1 a.2 b.1 b.2 = x at *
  generalize dt a.1 a.2 c.1 c.2 c.1 c.2 = y at *
  generalize dt c.1 c.2 b.1 b.2 b.1 b.2 = z at *
  rcases Int.lt_or_le 0 x with h | h
  · exfalso
    have q1 : x < y := by omega
    have q2 : x < z := by omega
    have : x * x < y * z := by
      have a1 : x * x < y * x := Int.mul_lt_mul_of_pos_right q1 h
      have a2 : y * x < y * z := Int.mul_lt_mul_of_pos_left q2 (by omega)
      omega
    omega
  · exact h
theorem sgP_ne {a b : P2} (h : sgP a b = true) : a ≠ b := fun e => by subst e; unfold sgP at h; rw [sgB_self] at h; cases h
theorem sgP_mk {a b : P2} (ha : ptB a.1 a.2 = true) (hb : ptB b.1 b.2 = true) (h : a ≠ b) : sgP a b = true := by
  unfold sgP; rw [sgB_iff]; rw [ptB_iff] at ha hb
  exact ⟨ha, hb, fun ⟨e1, e2⟩ => h (Prod.ext e1 e2)⟩
theorem d_ne {a b : P2} (h : a ≠ b) : ¬ (a.1 = b.1 ∧ a.2 = b.2) := fun ⟨e1, e2⟩ => h (Prod.ext e1 e2)
/-- Left out at the head, where nothing turns. -/
theorem OkL.less {c : P2} {m : List P2} (h : OkL (c :: m)) (hm : 3 ≤ m.length)
    (h0 : crs (ptAt m (m.length - 1)).1 (ptAt m (m.length - 1)).2 c.1 c.2 (ptAt m 0).1 (ptAt m 0).2 = 0) : OkL m := by
  have hl : (c :: m).length = m.length + 1 := by simp
  obtain ⟨a, ha⟩ : ∃ a, ptAt m (m.length - 1) = a := ⟨_, rfl⟩
  obtain ⟨b, hb⟩ : ∃ b, ptAt m 0 = b := ⟨_, rfl⟩
  rw [ha, hb] at h0
  -- edges of c :: m
  have E0 : sgP c b = true := by have := h.seg 0 (by omega); unfold sgE at this; rwa [nxt_tail c m (by omega), at_head, at_tail, hb] at this
  have EN : sgP a c = true := by
    have := h.seg m.length (by omega); unfold sgE at this
    rw [nxt_end, at_head] at this
    have e : ptAt (c :: m) m.length = a := by rw [← ha, ← at_tail c m]; congr 1; omega
    rwa [e] at this
  have EM : ∀ i, i + 1 < m.length → sgP (ptAt m i) (ptAt m (i + 1)) = true := fun i hi => by
    have := h.seg (i + 1) (by omega); unfold sgE at this
    rwa [nxt_tail c m hi, at_tail, at_tail] at this
  have iN : ptAt (c :: m) m.length = a := by rw [← ha, ← at_tail c m]; congr 1; omega
  have BN : hasP a c b = false ∧ hasP c b a = false := by
    have := h.back m.length (by omega); unfold backE at this
    rw [nxt_end, nxt_tail c m (by omega), at_head, at_tail, iN, hb] at this
    simpa [Bool.or_eq_false_iff] using this
  obtain ⟨hab, nab⟩ := between (sgP_ne EN) (sgP_ne E0) h0 BN.1 BN.2
  have split : ∀ p, hasP a b p = true → hasP a c p = true ∨ hasP c b p = true := fun p hp => has_part (d_ne nab) hab hp
  have parts : ∀ p q, meetP a b p q = true → meetP a c p q = true ∨ meetP c b p q = true := fun p q hp => by
    have := meet_parts (d_ne nab) hab (fun ⟨e1, e2⟩ => sgP_ne EN (Prod.ext e1.symm e2.symm)) (fun ⟨e1, e2⟩ => sgP_ne E0 (Prod.ext e1 e2)) hp
    exact Bool.or_eq_true_iff.1 this
  have A0 : ∀ j, 1 ≤ j → j + 2 ≤ m.length → meetP c b (ptAt m j) (ptAt m (j + 1)) = false := fun j h1 h2 => by
    have := h.apart 0 (j + 1) (by omega) (by omega) (by omega) (by rw [nxt_tail c m (by omega)]; omega) (by rw [nxt_tail c m (by omega)]; omega)
    unfold meetE at this
    rwa [nxt_tail c m (by omega), nxt_tail c m (by omega), at_head, at_tail, at_tail, at_tail, hb] at this
  have AN : ∀ j, j + 3 ≤ m.length → meetP a c (ptAt m j) (ptAt m (j + 1)) = false := fun j h2 => by
    have := h.apart m.length (j + 1) (by omega) (by omega) (by omega) (by rw [nxt_tail c m (by omega)]; omega) (by rw [nxt_end]; omega)
    unfold meetE at this
    rwa [nxt_end, nxt_tail c m (by omega), at_head, at_tail, at_tail, iN] at this
  have B0 : hasP c b (ptAt m 1) = false ∧ hasP b (ptAt m 1) c = false := by
    have := h.back 0 (by omega); unfold backE at this
    rw [nxt_tail c m (by omega), nxt_tail c m (by omega), at_head, at_tail, at_tail, hb] at this
    simpa [Bool.or_eq_false_iff] using this
  have iM : m.length - 2 + 1 = m.length - 1 := by omega
  have BM : hasP (ptAt m (m.length - 2)) a c = false ∧ hasP a c (ptAt m (m.length - 2)) = false := by
    have := h.back (m.length - 1) (by omega); unfold backE at this
    have e1 : nxt (c :: m) (m.length - 1) = m.length := by rw [nxt_tail c m (by omega)]; omega
    have e2 : ptAt (c :: m) (m.length - 1) = ptAt m (m.length - 2) := by rw [← at_tail c m]; congr 1; omega
    rw [e1, nxt_end, at_head, iN, e2] at this
    simpa [Bool.or_eq_false_iff] using this
  have la : nxt m (m.length - 1) = 0 := nxt_out (by omega)
  refine ⟨hm, by have := h.hi; omega, fun i hi => ?_, fun i hi => ?_, ?_⟩
  · unfold sgE
    rcases Nat.lt_or_ge (i + 1) m.length with h1 | h1
    · rw [nxt_in h1]; exact EM i h1
    · obtain rfl : i = m.length - 1 := by omega
      rw [la, ha, hb]
      exact sgP_mk (sgP_pt EN).1 (sgP_pt E0).2 nab
  · unfold backE
    rcases Nat.lt_or_ge (i + 2) m.length with h1 | h1
    · have := h.back (i + 1) (by omega); unfold backE at this
      rw [nxt_tail c m (by omega), nxt_tail c m (by omega), at_tail, at_tail, at_tail] at this
      rw [nxt_in (by omega), nxt_in (by omega)]; exact this
    · rcases Nat.lt_or_ge (i + 1) m.length with h2 | h2
      · obtain rfl : i = m.length - 2 := by omega
        have e1 : nxt m (m.length - 2) = m.length - 1 := by rw [nxt_in (by omega)]; omega
        rw [e1, la, ha, hb, Bool.or_eq_false_iff]
        have k := A0 (m.length - 2) (by omega) (by omega)
        rw [iM, ha] at k
        constructor
        · exact (meet_false k).2.2.2.1
        · cases e : hasP a b (ptAt m (m.length - 2))
          · rfl
          · rcases split _ e with e | e
            · rw [BM.2] at e; cases e
            · rw [(meet_false k).1] at e; cases e
      · obtain rfl : i = m.length - 1 := by omega
        rw [la, nxt_in (by omega), ha, hb, Bool.or_eq_false_iff]
        have k := AN 0 (by omega)
        rw [hb] at k
        constructor
        · cases e : hasP a b (ptAt m (0 + 1))
          · rfl
          · rcases split _ e with e | e
            · rw [(meet_false k).2.1] at e; cases e
            · rw [B0.1] at e; cases e
        · exact (meet_false k).2.2.1
  · have main : ∀ i j, i < m.length → j < m.length → i < j → nxt m j ≠ i → nxt m i ≠ j → meetE m i j = false := fun i j hi hj lt n2 n3 => by
      have e1 : nxt m i = i + 1 := nxt_in (by omega)
      rcases Nat.lt_or_ge (j + 1) m.length with h1 | h1
      · have := h.apart (i + 1) (j + 1) (by omega) (by omega) (by omega) (by rw [nxt_tail c m h1]; omega) (by rw [nxt_tail c m (by omega)]; omega)
        unfold meetE at this ⊢
        rw [nxt_tail c m (by omega), nxt_tail c m (by omega), at_tail, at_tail, at_tail, at_tail] at this
        rw [e1, nxt_in h1]; exact this
      · obtain rfl : j = m.length - 1 := by omega
        rw [la] at n2
        rw [e1] at n3
        unfold meetE; rw [e1, la, ha, hb]
        cases e : meetP (ptAt m i) (ptAt m (i + 1)) a b
        · rfl
        · rw [← meetP_comm] at e
          rcases parts _ _ e with e | e
          · rw [AN i (by omega)] at e; cases e
          · rw [A0 i (by omega) (by omega)] at e; cases e
    intro i j hi hj n1 n2 n3
    rcases Nat.lt_or_ge i j with lt | ge
    · exact main i j hi hj lt n2 n3
    · rw [← meetE_comm]; exact main j i hj hi (by omega) n3 n2
theorem sizeI_less (c : P2) (m : List P2) (hm : 1 ≤ m.length) :
    sizeI (c :: m) = sizeI m + crs (ptAt m (m.length - 1)).1 (ptAt m (m.length - 1)).2 c.1 c.2 (ptAt m 0).1 (ptAt m 0).2 := by
  obtain ⟨k, hk⟩ : ∃ k, m.length = k + 1 := ⟨m.length - 1, by omega⟩
  have e1 : sizeI (c :: m) = sumF (swE (c :: m)) (1 + k) + swE (c :: m) (1 + k) := by
    unfold sizeI; rw [List.length_cons, hk, Nat.add_comm 1 k]; rfl
  have e2 : sizeI m = sumF (swE m) k + swE m k := by unfold sizeI; rw [hk]; rfl
  rw [e1, e2, sumF_split]
  have e3 : sumF (swE (c :: m)) 1 = crs 0 0 c.1 c.2 (ptAt m 0).1 (ptAt m 0).2 := by
    simp only [sumF]; unfold swE; rw [nxt_tail c m (by omega), at_head, at_tail]; omega
  have e4 : sumF (fun i => swE (c :: m) (1 + i)) k = sumF (swE m) k := sumF_congr fun i hi => by
    unfold swE; rw [Nat.add_comm 1 i, nxt_tail c m (by omega), at_tail, at_tail, nxt_in (by omega)]
  have e5 : swE (c :: m) (1 + k) = crs 0 0 (ptAt m k).1 (ptAt m k).2 c.1 c.2 := by
    unfold swE
    have : nxt (c :: m) (1 + k) = 0 := by rw [Nat.add_comm 1 k, ← hk]; exact nxt_end c m
    rw [this, at_head, Nat.add_comm 1 k, at_tail]
  have e6 : swE m k = crs 0 0 (ptAt m k).1 (ptAt m k).2 (ptAt m 0).1 (ptAt m 0).2 := by unfold swE; rw [nxt_out hk.symm]
  rw [e3, e4, e5, e6]
  have := crs_split (ptAt m k).1 (ptAt m k).2 c.1 c.2 (ptAt m 0).1 (ptAt m 0).2
  have e7 : m.length - 1 = k := by omega
  rw [e7]; omega
/-- Without the point at a place. -/
def without (k : Nat) (l : List P2) : List P2 := l.take k ++ l.drop (k + 1)
theorem without_len {k : Nat} {l : List P2} (hk : k < l.length) : (without k l).length = l.length - 1 := by simp [without]; omega
theorem rot_cons {k : Nat} {l : List P2} (hk : k < l.length) : ∃ m, rot k l = ptAt l k :: m ∧ m.length = l.length - 1 ∧ rot k (without k l) = m := by
  refine ⟨l.drop (k + 1) ++ l.take k, ?_, by simp; omega, ?_⟩
  · unfold rot
    have e : l.drop k = ptAt l k :: l.drop (k + 1) := by rw [ptAt_lt hk]; exact List.drop_eq_getElem_cons hk
    rw [e]; rfl
  · have e : (l.take k).length = k := by simp; omega
    unfold rot without
    have d := List.drop_left (l₁ := l.take k) (l₂ := l.drop (k + 1))
    have t := List.take_left (l₁ := l.take k) (l₂ := l.drop (k + 1))
    rw [e] at d t
    rw [d, t]
theorem rot_back (k : Nat) (l : List P2) : rot (l.length - k) (rot k l) = l := by
  have e : (l.drop k).length = l.length - k := by simp
  unfold rot
  have d := List.drop_left (l₁ := l.drop k) (l₂ := l.take k)
  have t := List.take_left (l₁ := l.drop k) (l₂ := l.take k)
  rw [e] at d t
  rw [d, t, List.take_append_drop]
theorem OkL.of_rot {l : List P2} {k : Nat} (hk : k < l.length) (h : OkL (YtfibkhepjpehpaaGreatDoor.rot k l)) : OkL l := by
  rcases Nat.eq_zero_or_pos k with rfl | h0
  · simpa [YtfibkhepjpehpaaGreatDoor.rot] using h
  · have := h.rot (k := l.length - k) (by rw [rot_len (by omega)]; omega)
    rwa [rot_back] at this
theorem rot_last {l : List P2} {k : Nat} (hk : k < l.length) {m : List P2} (h : rot k l = ptAt l k :: m) (hm : m.length = l.length - 1) (h2 : 2 ≤ l.length) :
    ptAt m (m.length - 1) = ptAt l ((k + l.length - 1) % l.length) ∧ ptAt m 0 = ptAt l ((k + 1) % l.length) := by
  constructor
  · have := rot_at (l := l) hk (i := l.length - 1) (by omega)
    rw [h] at this
    have e : l.length - 1 = (m.length - 1) + 1 := by omega
    rw [e, at_tail] at this
    rw [this]; congr 2; omega
  · have := rot_at (l := l) hk (i := 1) (by omega)
    rw [h, at_tail] at this
    rw [this, Nat.add_comm 1 k]
/-- LEFT OUT WHERE NOTHING TURNS. -/
theorem less_ok {l : List P2} (h : OkL l) (h4 : 4 ≤ l.length) {k : Nat} (hk : k < l.length)
    (h0 : crs (ptAt l ((k + l.length - 1) % l.length)).1 (ptAt l ((k + l.length - 1) % l.length)).2 (ptAt l k).1 (ptAt l k).2 (ptAt l ((k + 1) % l.length)).1 (ptAt l ((k + 1) % l.length)).2 = 0) : OkL (without k l) := by
  obtain ⟨m, e1, e2, e3⟩ := rot_cons hk
  obtain ⟨e4, e5⟩ := rot_last hk e1 e2 (by omega)
  have hr := h.rot hk
  rw [e1] at hr
  have hm : OkL m := OkL.less hr (by omega) (by rw [e4, e5]; exact h0)
  rcases Nat.lt_or_ge k (without k l).length with hk' | hk'
  · exact OkL.of_rot hk' (by rw [e3]; exact hm)
  · have hw := without_len hk
    have : rot k (without k l) = without k l := by unfold rot; rw [List.drop_eq_nil_of_le hk', List.take_of_length_le hk']; rfl
    rw [← this, e3]; exact hm
theorem less_size {l : List P2} (h4 : 2 ≤ l.length) {k : Nat} (hk : k < l.length) :
    sizeI l = sizeI (without k l) + crs (ptAt l ((k + l.length - 1) % l.length)).1 (ptAt l ((k + l.length - 1) % l.length)).2 (ptAt l k).1 (ptAt l k).2 (ptAt l ((k + 1) % l.length)).1 (ptAt l ((k + 1) % l.length)).2 := by
  obtain ⟨m, e1, e2, e3⟩ := rot_cons hk
  obtain ⟨e4, e5⟩ := rot_last hk e1 e2 (by omega)
  have s1 := sizeI_rot hk
  have s2 := sizeI_less (ptAt l k) m (by omega)
  rw [e4, e5, ← e1, s1] at s2
  rw [s2]
  have : sizeI (without k l) = sizeI m := by
    rcases Nat.lt_or_ge k (without k l).length with hk' | hk'
    · rw [← e3, sizeI_rot hk']
    · have : rot k (without k l) = without k l := by unfold rot; rw [List.drop_eq_nil_of_le hk', List.take_of_length_le hk']; rfl
      rw [← this, e3]
  rw [this]
end Go.Proofs.YtfibkhepjpehpaaGreatDoor
namespace Go.Proofs.YtfibkhepjpehpaaGreatDoor

/-- No edges of two loops meet. -/
def apL (a b : List P2) : Bool := (List.range a.length).all fun i => (List.range b.length).all fun k => !meetP (ptAt a i) (ptAt a (nxt a i)) (ptAt b k) (ptAt b (nxt b k))
theorem apL_iff (a b : List P2) : apL a b = true ↔ ∀ i, i < a.length → ∀ k, k < b.length → meetP (ptAt a i) (ptAt a (nxt a i)) (ptAt b k) (ptAt b (nxt b k)) = false := by
  unfold apL
  simp only [List.all_eq_true, List.mem_range, Bool.not_eq_true']
theorem apL_comm (a b : List P2) : apL b a = apL a b := by
  rw [Bool.eq_iff_iff, apL_iff, apL_iff]
  constructor
  · intro h i hi k hk; rw [meetP_comm]; exact h k hk i hi
  · intro h i hi k hk; rw [meetP_comm]; exact h k hk i hi
theorem apL_side {f : P2 → P2} (hf : Side f) (a b : List P2) : apL (a.map f) (b.map f) = apL a b := by
  rw [Bool.eq_iff_iff, apL_iff, apL_iff]
  simp only [List.length_map, map_nxt]
  constructor
  · intro h i hi k hk; have := h i hi k hk; rwa [map_at hi, map_at hk, map_at (nxt_lt (by omega)), map_at (nxt_lt (by omega)), hf.meet] at this
  · intro h i hi k hk; rw [map_at hi, map_at hk, map_at (nxt_lt (by omega)), map_at (nxt_lt (by omega)), hf.meet]; exact h i hi k hk
theorem apL_rev1 {a b : List P2} (h : apL a b = true) : apL a.reverse b = true := by
  rw [apL_iff] at h ⊢
  intro i hi k hk
  rw [List.length_reverse] at hi
  rw [rev_first hi, rev_last hi, meetP_back1]
  exact h _ (rvE_lt hi) k hk
theorem apL_rev {a b : List P2} (h : apL a b = true) : apL a.reverse b.reverse = true := by
  have h1 := apL_rev1 h
  rw [apL_comm] at h1 ⊢
  exact apL_rev1 h1
/-- Corners of a loop that does not meet another one are all on one side of it. -/
theorem apL_same {o h : List P2} (hm : apL o h = true) : ∀ i, i < h.length → inI o (ptAt h i) = inI o (ptAt h 0) ∧ onL o (ptAt h i) = false := by
  rw [apL_iff] at hm
  have step : ∀ i, i < h.length → inI o (ptAt h i) = inI o (ptAt h (nxt h i)) ∧ onL o (ptAt h i) = false ∧ onL o (ptAt h (nxt h i)) = false := fun i hi => inI_way (fun j hj => hm j hj i hi)
  intro i
  induction i with
  | zero => intro hi; exact ⟨rfl, (step 0 hi).2.1⟩
  | succ n ih =>
    intro hi
    have h1 := step n (by omega)
    rw [nxt_in hi] at h1
    exact ⟨h1.1.symm.trans (ih (by omega)).1, h1.2.2⟩
/-- An edge to the left of a point, or under it, does not pass right of it. -/
theorem pass_right' {a b p : P2} (h1 : a.1 ≤ p.1) (h2 : b.1 ≤ p.1) : passP a b p = false := by
  have key : ∀ a b : P2, a.1 ≤ p.1 → b.1 ≤ p.1 → (decide (a.2 ≤ p.2) && decide (p.2 < b.2) && decide (0 < crs a.1 a.2 b.1 b.2 p.1 p.2)) = false := by
    intro a b h1 h2
    rw [Bool.eq_false_iff]
    intro h
    simp only [Bool.and_eq_true, decide_eq_true_eq] at h
    obtain ⟨⟨ha, hb⟩, hc⟩ := h
    have e : crs a.1 a.2 b.1 b.2 p.1 p.2 = - ((p.1 - b.1) * (p.2 - a.2) + (p.1 - a.1) * (b.2 - p.2)) := by unfold crs; grind
    have t1 := Int.mul_nonneg (show 0 ≤ p.1 - b.1 by omega) (show 0 ≤ p.2 - a.2 by omega)
    have t2 := Int.mul_nonneg (show 0 ≤ p.1 - a.1 by omega) (show 0 ≤ b.2 - p.2 by omega)
    omega
  unfold passP
  split
  · exact key b a h2 h1
  · exact key a b h1 h2
theorem inI_right {l : List P2} {p : P2} (h0 : onL l p = false) (h : ∀ i, i < l.length → (ptAt l i).1 ≤ p.1) : inI l p = -1 := by
  refine inI_none h0 ?_
  unfold cntP
  rw [sumE_zero]
  · rfl
  · intro i hi
    rw [pass_right' (h i hi) (h _ (nxt_lt (by omega)))]; rfl
/-- The rightmost corner. -/
theorem rightmost {l : List P2} (h : 0 < l.length) : ∃ i, i < l.length ∧ ∀ k, k < l.length → (ptAt l k).1 ≤ (ptAt l i).1 := by
  have : ∀ n, 0 < n → ∃ i, i < n ∧ ∀ k, k < n → (ptAt l k).1 ≤ (ptAt l i).1 := by
    intro n
    induction n with
    | zero => intro h; omega
    | succ n ih =>
      intro _
      rcases Nat.eq_zero_or_pos n with rfl | hn
      · exact ⟨0, by omega, fun k hk => by
          have e : k = 0 := by omega
          subst e; exact Int.le_refl _⟩
      · obtain ⟨i, hi, hm⟩ := ih hn
        by_cases hle : (ptAt l n).1 ≤ (ptAt l i).1
        · refine ⟨i, by omega, fun k hk => ?_⟩
          by_cases e : k = n
          · subst e; exact hle
          · exact hm k (by omega)
        · refine ⟨n, by omega, fun k hk => ?_⟩
          by_cases e : k = n
          · subst e; omega
          · have := hm k (by omega); omega
  exact this _ h
/-- Not each of two loops is in the other one. -/
theorem not_both {o h : List P2} (ho : 0 < o.length) (hh : 0 < h.length) (hm : apL o h = true) (h1 : inI o (ptAt h 0) = 1) : ∀ i, i < o.length → inI h (ptAt o i) = -1 := by
  have s1 := apL_same hm
  have s2 := apL_same (show apL h o = true by rw [apL_comm]; exact hm)
  obtain ⟨i, hi, him⟩ := rightmost ho
  obtain ⟨k, hk, hkm⟩ := rightmost hh
  have key : inI h (ptAt o i) = -1 := by
    by_cases hle : (ptAt h k).1 ≤ (ptAt o i).1
    · exact inI_right (s2 i hi).2 (fun j hj => by have := hkm j hj; omega)
    · have := inI_right (s1 k hk).2 (fun j hj => by have := him j hj; omega)
      rw [(s1 k hk).1, h1] at this
      omega
  intro j hj
  rw [(s2 j hj).1, ← (s2 i hi).1]; exact key

/-- The second loop is in the first one, without meeting it. -/
def arB (o h : List P2) : Bool := apL o h && decide (inI o (ptAt h 0) = 1)
/-- Two loops, beyond each other, that do not meet. -/
def beB (a b : List P2) : Bool := apL a b && decide (inI a (ptAt b 0) = -1) && decide (inI b (ptAt a 0) = -1)
/-- A plate is ok. -/
def plV (o : List P2) (hs : List (List P2)) : Bool :=
  match hs with
  | [] => okV o
  | [h] => okV o && okV h && arB o h
  | [h, k] => okV o && okV h && okV k && arB o h && arB o k && beB h k
  | _ => false
theorem arB_iff (o h : List P2) : arB o h = true ↔ apL o h = true ∧ inI o (ptAt h 0) = 1 := by unfold arB; simp
theorem beB_iff (a b : List P2) : beB a b = true ↔ apL a b = true ∧ inI a (ptAt b 0) = -1 ∧ inI b (ptAt a 0) = -1 := by unfold beB; simp [and_assoc]
theorem beB_comm (a b : List P2) : beB b a = beB a b := by
  rw [Bool.eq_iff_iff, beB_iff, beB_iff, apL_comm]
  constructor <;> exact fun ⟨x, y, z⟩ => ⟨x, z, y⟩
theorem okV_pos {l : List P2} (h : okV l = true) : 3 ≤ l.length ∧ l.length ≤ 8 := by have := (okV_iff l).1 h; exact ⟨this.1, this.2⟩

/-- What turns a plate into another one. -/
structure Turns (f : List P2 → List P2) : Prop where
  ok : ∀ l, okV l = true → okV (f l) = true
  ap : ∀ a b, apL a b = true → apL (f a) (f b) = true
  inn : ∀ a b, okV a = true → okV b = true → apL a b = true → inI (f a) (ptAt (f b) 0) = inI a (ptAt b 0)
theorem turns_mir : Turns (List.map mirP) := ⟨fun l h => (okV_iff _).2 (((okV_iff l).1 h).side mir_side), fun a b h => by rw [apL_side mir_side]; exact h, fun a b _ hb _ => by
  have := okV_pos hb
  rw [map_at (by omega)]; exact inI_mir a (ptAt b 0)⟩
theorem turns_swp : Turns (List.map swpP) := ⟨fun l h => (okV_iff _).2 (((okV_iff l).1 h).side swp_side), fun a b h => by rw [apL_side swp_side]; exact h, fun a b _ hb _ => by
  have := okV_pos hb
  rw [map_at (by omega)]; exact inI_swp a (ptAt b 0)⟩
theorem turns_rev : Turns List.reverse := ⟨fun l h => (okV_iff _).2 ((okV_iff l).1 h).rev, fun a b h => apL_rev h, fun a b _ hb hm => by
  have := okV_pos hb
  rw [inI_rev, rev_at (by omega)]
  exact (apL_same hm _ (by omega)).1⟩
theorem arB_turn {f : List P2 → List P2} (hf : Turns f) {a b : List P2} (ha : okV a = true) (hb : okV b = true) (h : arB a b = true) : arB (f a) (f b) = true := by
  rw [arB_iff] at h ⊢
  exact ⟨hf.ap _ _ h.1, by rw [hf.inn _ _ ha hb h.1]; exact h.2⟩
theorem beB_turn {f : List P2 → List P2} (hf : Turns f) {a b : List P2} (ha : okV a = true) (hb : okV b = true) (h : beB a b = true) : beB (f a) (f b) = true := by
  rw [beB_iff] at h ⊢
  exact ⟨hf.ap _ _ h.1, by rw [hf.inn _ _ ha hb h.1]; exact h.2.1, by rw [hf.inn _ _ hb ha (by rw [apL_comm]; exact h.1)]; exact h.2.2⟩
theorem plV_turn {f : List P2 → List P2} (hf : Turns f) {o : List P2} {hs : List (List P2)} (h : plV o hs = true) : plV (f o) (hs.map f) = true := by
  match hs, h with
  | [], h => exact hf.ok _ h
  | [a], h =>
    simp only [plV, Bool.and_eq_true, List.map_cons, List.map_nil] at h ⊢
    exact ⟨⟨hf.ok _ h.1.1, hf.ok _ h.1.2⟩, arB_turn hf h.1.1 h.1.2 h.2⟩
  | [a, b], h =>
    simp only [plV, Bool.and_eq_true, List.map_cons, List.map_nil] at h ⊢
    obtain ⟨⟨⟨⟨⟨h1, h2⟩, h3⟩, h4⟩, h5⟩, h6⟩ := h
    exact ⟨⟨⟨⟨⟨hf.ok _ h1, hf.ok _ h2⟩, hf.ok _ h3⟩, arB_turn hf h1 h2 h4⟩, arB_turn hf h1 h3 h5⟩, beB_turn hf h2 h3 h6⟩
  | _ :: _ :: _ :: _, h => simp [plV] at h
theorem plV_less {o : List P2} {hs : List (List P2)} (h : plV o hs = true) : plV o hs.dropLast = true := by
  match hs, h with
  | [], h => exact h
  | [a], h => simp only [plV, Bool.and_eq_true, List.dropLast] at h ⊢; exact h.1.1
  | [a, b], h =>
    simp only [plV, Bool.and_eq_true, List.dropLast] at h ⊢
    exact ⟨⟨h.1.1.1.1.1, h.1.1.1.1.2⟩, h.1.1.2⟩
  | _ :: _ :: _ :: _, h => simp [plV] at h
theorem plV_back {o : List P2} {hs : List (List P2)} (h : plV o hs = true) : plV o hs.reverse = true := by
  match hs, h with
  | [], h => exact h
  | [a], h => exact h
  | [a, b], h =>
    simp only [plV, Bool.and_eq_true, List.reverse_cons, List.reverse_nil, List.nil_append, List.cons_append] at h ⊢
    obtain ⟨⟨⟨⟨⟨h1, h2⟩, h3⟩, h4⟩, h5⟩, h6⟩ := h
    exact ⟨⟨⟨⟨⟨h1, h3⟩, h2⟩, h5⟩, h4⟩, by rw [beB_comm]; exact h6⟩
  | _ :: _ :: _ :: _, h => simp [plV] at h
theorem plV_len {o : List P2} {hs : List (List P2)} (h : plV o hs = true) : hs.length ≤ 2 := by
  match hs, h with
  | [], _ => simp
  | [a], _ => simp
  | [a, b], _ => simp
  | _ :: _ :: _ :: _, h => simp [plV] at h
/-- In order: outer loop, holes; what holds of them. -/
structure PlL (o : List P2) (hs : List (List P2)) : Prop where
  out : okV o = true
  len : hs.length ≤ 2
  ok : ∀ h ∈ hs, okV h = true
  ar : ∀ h ∈ hs, arB o h = true
  be : ∀ i k, i < k → k < hs.length → beB (hs[i]?.getD []) (hs[k]?.getD []) = true
theorem plV_iff (o : List P2) (hs : List (List P2)) : plV o hs = true ↔ PlL o hs := by
  match hs with
  | [] => exact ⟨fun h => ⟨h, by simp, by simp, by simp, fun i k _ hk => by simp at hk⟩, fun h => h.out⟩
  | [a] =>
    simp only [plV, Bool.and_eq_true]
    constructor
    · intro h
      exact ⟨h.1.1, by simp, fun x hx => by simp at hx; rw [hx]; exact h.1.2, fun x hx => by simp at hx; rw [hx]; exact h.2, fun i k _ hk => by simp at hk; omega⟩
    · intro h; exact ⟨⟨h.out, h.ok a (by simp)⟩, h.ar a (by simp)⟩
  | [a, b] =>
    simp only [plV, Bool.and_eq_true]
    constructor
    · rintro ⟨⟨⟨⟨⟨h1, h2⟩, h3⟩, h4⟩, h5⟩, h6⟩
      refine ⟨h1, by simp, ?_, ?_, ?_⟩
      · intro x hx; simp at hx; rcases hx with rfl | rfl <;> assumption
      · intro x hx; simp at hx; rcases hx with rfl | rfl <;> assumption
      · intro i k h hk
        simp at hk
        obtain rfl : i = 0 := by omega
        obtain rfl : k = 1 := by omega
        exact h6
    · intro h
      exact ⟨⟨⟨⟨⟨h.out, h.ok a (by simp)⟩, h.ok b (by simp)⟩, h.ar a (by simp)⟩, h.ar b (by simp)⟩, h.be 0 1 (by omega) (by simp)⟩
  | _ :: _ :: _ :: _ =>
    simp only [plV]
    exact ⟨fun h => (by cases h), fun h => (by have := h.len; simp at this)⟩
end Go.Proofs.YtfibkhepjpehpaaGreatDoor
namespace Go.Proofs.YtfibkhepjpehpaaGreatDoor
open Go.RowKit Go.Sort

theorem okV_pt8 {pts : List P2} (h : okV pts = true) {i : Nat} (hi : i < pts.length) : ptB (ptAt pts i).1 (ptAt pts i).2 = true := (sgP_pt (((okV_iff pts).1 h).seg i hi)).1
/-- The text of a loop. -/
def ltB (l : List P2) : ByteArray := if okV l then txB l else ⟨#[]⟩
theorem loopText_any (a : Option Addr) (len cap : Nat) (l : List P2) (hlen : len ≤ 1048576) (w : World) (hT : Tab w) (hP : Pts w.heap.size w a len l) :
    Calls Tryz.prog 6 #[.slice a len cap] w fun e w' => e = .returned (.string (ltB l)) ∧ Below w.heap.size w w' := by
  have hO := ok_any a len cap l hlen w hP
  cases hv : okV l
  · have e1 : Hid (ltB l = ⟨#[]⟩) := by change _ = _; unfold ltB; rw [hv]; rfl
    rw [hv] at hO
    go_enter Tryz.func6, Tryz.ntmps6
    go_wp2_with fail
    refine hO.mono ?_
    rintro e w1 ⟨rfl, J⟩
    go_wp2_with fail
    go_ret
    exact ⟨ret_str e1.out.symm, J⟩
  · have e1 : Hid (ltB l = txB l) := by change _ = _; unfold ltB; rw [hv]; rfl
    have hok : ∀ i, i < len → ptB (ptAt l i).1 (ptAt l i).2 = true := fun i hi => okV_pt8 hv (by rw [hP.1]; exact hi)
    have h8 : len ≤ 8 := by have := (okV_pos hv).2; rw [hP.1] at this; exact this
    rw [hv] at hO
    go_enter Tryz.func6, Tryz.ntmps6
    go_wp2_with fail
    refine hO.mono ?_
    rintro e w1 ⟨rfl, J⟩
    go_wp2_with fail
    refine (ptsText_ok a len cap l (by omega) _ (hT.below J) ((hP.below J).grow J.size) hok).mono ?_
    rintro e w2 ⟨rfl, J2⟩
    go_wp2_with fail
    go_ret
    exact ⟨ret_str e1.out.symm, bw_trans J J2⟩
theorem sLoopText_any (a : Option Addr) (len cap : Nat) (l : List P2) (hlen : len ≤ 1048576) (w : World) (hP : Pts w.heap.size w a len l) :
    Calls Tryz.prog 7 #[.slice a len cap] w fun e w' => e = .returned (.string (ltB l)) ∧ Below w.heap.size w w' := by
  have hO := sOk_any a len cap l hlen w hP
  cases hv : okV l
  · have e1 : Hid (ltB l = ⟨#[]⟩) := by change _ = _; unfold ltB; rw [hv]; rfl
    rw [hv] at hO
    go_enter Tryz.func7, Tryz.ntmps7
    go_wp2_with fail
    refine hO.mono ?_
    rintro e w1 ⟨rfl, J⟩
    go_wp2_with fail
    go_ret
    exact ⟨ret_str e1.out.symm, J⟩
  · have e1 : Hid (ltB l = txB l) := by change _ = _; unfold ltB; rw [hv]; rfl
    have hok : ∀ i, i < len → ptB (ptAt l i).1 (ptAt l i).2 = true := fun i hi => okV_pt8 hv (by rw [hP.1]; exact hi)
    have h8 : len ≤ 8 := by have := (okV_pos hv).2; rw [hP.1] at this; exact this
    rw [hv] at hO
    go_enter Tryz.func7, Tryz.ntmps7
    go_wp2_with fail
    refine hO.mono ?_
    rintro e w1 ⟨rfl, J⟩
    go_wp2_with fail
    refine (sText_ok a len cap l (by omega) _ ((hP.below J).grow J.size) hok).mono ?_
    rintro e w2 ⟨rfl, J2⟩
    go_wp2_with fail
    go_ret
    exact ⟨ret_str e1.out.symm, bw_trans J J2⟩
end Go.Proofs.YtfibkhepjpehpaaGreatDoor
namespace Go.Proofs.YtfibkhepjpehpaaGreatDoor
open Go.RowKit Go.Sort

/-- A block of our own of so many cells. -/
def Own (W : World) (g n : Nat) (t : TypeId) : Prop := ∃ cur : Array Value, W.heap[g]? = some (.cells cur t (0, 0)) ∧ cur.size = n
theorem Own.lt {W : World} {g n : Nat} {t : TypeId} (h : Own W g n t) : g < W.heap.size := by obtain ⟨cur, h, _⟩ := h; exact (Array.getElem?_eq_some_iff.1 h).1
theorem Own.room {W : World} {g n i : Nat} {t : TypeId} (h : Own W g n t) (hi : i < n) : (∃ u, W.cell? ⟨g, i, none⟩ = some u) ∧ W.frozen? ⟨g, i, none⟩ = false := by
  obtain ⟨cur, h, hs⟩ := h
  exact ⟨⟨cur[i]'(by omega), by rw [row_cell h]; exact Array.getElem?_eq_getElem _⟩, row_frozen h⟩
theorem Own.set {W : World} {g n i : Nat} {t : TypeId} (h : Own W g n t) (v : Value) : Own (W.setCell ⟨g, i, none⟩ v) g n t := by
  obtain ⟨cur, h, hs⟩ := h
  exact ⟨_, setCell_row h v, by simpa using hs⟩
theorem Own.below {W W' : World} {g n : Nat} {t : TypeId} (h : Own W g n t) (J : Below W.heap.size W W') : Own W' g n t := by
  have hl := h.lt
  obtain ⟨cur, h, hs⟩ := h
  exact ⟨cur, (J.block g hl).trans h, hs⟩
theorem Own.only {W W' : World} {g n r : Nat} {t : TypeId} (h : Own W g n t) (O : Only r W W') (hne : g ≠ r) : Own W' g n t := by
  have hl := h.lt
  obtain ⟨cur, h, hs⟩ := h
  exact ⟨cur, (O.block g hne hl).trans h, hs⟩
theorem own_set_cell {W : World} {g n i j : Nat} {t : TypeId} (h : Own W g n t) (hi : i < n) (v : Value) : (W.setCell ⟨g, i, none⟩ v).cell? ⟨g, j, none⟩ = if i = j then some v else W.cell? ⟨g, j, none⟩ := by
  obtain ⟨cur, h, hs⟩ := h
  rw [row_cell (setCell_row h v), row_cell h, Array.getElem?_setIfInBounds]
  by_cases e : i = j
  · rw [if_pos e, if_pos e, if_pos (by omega)]
  · rw [if_neg e, if_neg e]
/-- The cells of a block, from the first on, are k, k + 1, and so on. -/
def Num (W : World) (g n : Nat) (k : Int) : Prop := ∀ j, j < n → W.cell? ⟨g, j, none⟩ = some (.int .i64 (k + j))
theorem Num.below {W W' : World} {g n : Nat} {k : Int} (h : Num W g n k) (hg : g < W.heap.size) (J : Below W.heap.size W W') : Num W' g n k := fun j hj => (J.cell (p := ⟨g, j, none⟩) hg).trans (h j hj)
theorem Num.snoc {W : World} {g n m : Nat} {t : TypeId} {k u : Int} (h : Own W g n t) (hN : Num W g m k) (hm : m < n) (hu : u = k + m) : Num (W.setCell ⟨g, m, none⟩ (.int .i64 u)) g (m + 1) k := by
  intro j hj
  rw [own_set_cell h hm]
  by_cases e : m = j
  · rw [if_pos e, hu, e]
  · rw [if_neg e]; exact hN j (by omega)
theorem PtBlk.own {W : World} {g c n : Nat} {l : List P2} (h : PtBlk W g c l n) : Own W g (c * 2) 38 := by obtain ⟨cur, h, hs, _⟩ := h; exact ⟨cur, h, hs⟩
/-- A slice of points of our own memory, or none. -/
def AnsT (base top : Nat) (W : World) (v : Value) (l : List P2) : Prop :=
  (l = [] ∧ ∃ a c, v = .slice a 0 c) ∨ ∃ g c, v = .slice (some ⟨g, 0, none⟩) l.length c ∧ base ≤ g ∧ g < top ∧ l.length ≤ c ∧ PtBlk W g c l l.length
theorem AnsT.below {base top : Nat} {W W' : World} {v : Value} {l : List P2} (h : AnsT base top W v l) (J : Below W.heap.size W W') : AnsT base top W' v l := by
  rcases h with h | ⟨g, c, e, hb, ht, hc, hB⟩
  · exact .inl h
  · exact .inr ⟨g, c, e, hb, ht, hc, hB.below J⟩
theorem AnsT.only {base top r : Nat} {W W' : World} {v : Value} {l : List P2} (h : AnsT base top W v l) (O : Only r W W') (hr : r < base ∨ top ≤ r) : AnsT base top W' v l := by
  rcases h with h | ⟨g, c, e, hb, ht, hc, hB⟩
  · exact .inl h
  · exact .inr ⟨g, c, e, hb, ht, hc, blk_only hB O (by omega)⟩
theorem AnsT.of_own {base n : Nat} {W : World} {v : Value} {l : List P2} (h : W.ownsRow base 38 2 v n (ptCells l)) (hn : l.length = n) : AnsT base W.heap.size W v l := by
  rcases Nat.eq_zero_or_pos n with h0 | h0
  · subst h0
    rcases h.2 with ⟨h, _⟩ | ⟨g, cap, cur, e, hb, hg, h1, h2, hs, ht⟩
    · exact .inl ⟨List.eq_nil_of_length_eq_zero hn, _, _, h⟩
    · exact .inl ⟨List.eq_nil_of_length_eq_zero hn, _, _, e⟩
  · obtain ⟨g2, c2, rfl, _, _⟩ := h.form (by omega)
    obtain ⟨hb3, h1, h2, h3⟩ := blk_of_own h hn
    exact .inr ⟨g2, c2, by rw [hn], h3, hb3.lt, by rw [hn]; exact h1, by rw [hn]; exact hb3⟩
theorem AnsT.own {base top : Nat} {W : World} {v : Value} {l : List P2} (h : AnsT base top W v l) : ∃ a c, v = .slice a l.length c ∧ Pts W.heap.size W a l.length l := by
  rcases h with ⟨rfl, a, c, rfl⟩ | ⟨g, c, rfl, hb, ht, hc, hB⟩
  · exact ⟨a, c, rfl, rfl, .inl rfl⟩
  · exact ⟨_, c, rfl, hB.pts' rfl⟩
/-- A slice of points that bears the marks. -/
def MarkT (base top : Nat) (W : World) (v : Value) (n : Nat) : Prop :=
  (n = 0 ∧ ∃ a c, v = .slice a 0 c) ∨ ∃ g c, v = .slice (some ⟨g, 0, none⟩) n c ∧ base ≤ g ∧ g < top ∧ g < W.heap.size ∧ Num W g (n * 2) 1
theorem MarkT.below {base top n : Nat} {W W' : World} {v : Value} (h : MarkT base top W v n) (J : Below W.heap.size W W') : MarkT base top W' v n := by
  rcases h with h | ⟨g, c, e, hb, ht, hg, hN⟩
  · exact .inl h
  · exact .inr ⟨g, c, e, hb, ht, Nat.lt_of_lt_of_le hg J.size, hN.below hg J⟩
end Go.Proofs.YtfibkhepjpehpaaGreatDoor
namespace Go.Proofs.YtfibkhepjpehpaaGreatDoor
open Go.RowKit Go.Sort

theorem ltB_size {l : List P2} (h : l.length ≤ 8) : (ltB l).size ≤ 352 := by
  unfold ltB
  split
  · rename_i hv
    have := txB_size l (okV_pts8 hv).2.2
    omega
  · exact Nat.zero_le _
set_option maxRecDepth 100000 in
set_option maxHeartbeats 4000000 in
theorem loopBack_walk (w : World) (a0 : Option Addr) (len0 cap0 : Nat) (z0 : List Int) (r0 : IsRow .u8 w a0 len0 cap0 z0) (hL : Lib4 w) :
    Calls Tryz.prog 3 #[.slice a0 len0 cap0] w fun e w' => e = .returned (.bool true) ∧ Below w.heap.size w w' := by
  by_cases hl0 : (1048576 : Int) < (len0 : Int)
  · go_enter Tryz.func3, Tryz.ntmps3
    go_wp2_with fail
    go_ret
    exact ⟨rfl, bw_refl _⟩
  go_enter Tryz.func3, Tryz.ntmps3
  go_wp2_with fail
  refine (drawText_any w _ r0 (bw_refl _)).mono ?_
  rintro e w1 ⟨vv, l, n, rfl, ⟨g, c, rfl, n3, n7, hl, hnc, hcm, hbg, hb⟩, J1⟩
  have hP1 := hb.pts' hl
  have hL1 := hL.below J1
  have hT := fun V (J : Below w1.heap.size w1 V) => loopText_any (some ⟨g, 0, none⟩) n c l (by omega) V (hL1.below J).tab ((hP1.below J).grow J.size)
  have hS := fun V (J : Below w1.heap.size w1 V) => sLoopText_any (some ⟨g, 0, none⟩) n c l (by omega) V ((hP1.below J).grow J.size)
  cases hv : okV l with
  | false =>
    have e1 : ltB l = ⟨#[]⟩ := by unfold ltB; rw [hv]; rfl
    rw [e1] at hT hS
    clear e1
    go_wp2_with fail
    refine (hT _ (bw_refl _)).mono ?_
    rintro e w2 ⟨rfl, J2⟩
    go_wp2_with fail
    refine (hS _ J2).mono ?_
    rintro e w3 ⟨rfl, J3⟩
    have J23 := bw_trans J2 J3
    go_wp2_with fail
    refine (hS _ J23).mono ?_
    rintro e w4 ⟨rfl, J4⟩
    go_wp2_with fail
    go_ret
    exact ⟨rfl, bw_trans J1 (bw_trans J23 J4)⟩
  | true =>
    obtain ⟨hrd, hsz⟩ := read_back hv
    have e1 : ltB l = txB l := by unfold ltB; rw [hv]; rfl
    rw [e1] at hT hS
    have h8 : (txB l).size ≤ 1048576 := by omega
    have hR := fun V (J : Below w1.heap.size w1 V) => loopRead_any (txB l) h8 V (hL1.below J)
    rw [hrd] at hR
    rw [hl] at hsz
    have hne : (txB l).toList.isEmpty = false := by
      rw [Lib.toList_data]
      have e0 : (txB l).data.toList.length = (txB l).size := Array.length_toList
      cases hc : (txB l).data.toList with
      | nil => rw [hc] at e0; simp at e0; omega
      | cons _ _ => rfl
    generalize txB l = t at *
    clear e1 hv hrd
    go_wp2_with fail
    refine (hT _ (bw_refl _)).mono ?_
    rintro e w2 ⟨rfl, J2⟩
    go_wp2_with fail
    refine (hS _ J2).mono ?_
    rintro e w3 ⟨rfl, J3⟩
    have J23 := bw_trans J2 J3
    go_wp2_with fail
    refine (hR _ J23).mono ?_
    rintro e w4 ⟨v, l', rfl, hl2, hown, J4⟩
    have hl3 : l' = l := hl2
    rw [hl3] at hown
    clear hl2 hl3
    have J24 := bw_trans J23 J4
    have A := (AnsT.of_own hown rfl).own
    obtain ⟨a', c', rfl, hP4⟩ := A
    have hP5 : Pts w4.heap.size w4 a' l.length l := hP4
    rw [hl] at hP5
    have hSm := luSame_same a' (some ⟨g, 0, none⟩) n c' c l w4 hP5 ((hP1.below J24).grow J24.size) (by omega)
    have hsz2 : (t.size : Int) = 4 * (n : Int) - 1 := by omega
    have k1 : IntKind.i64.wrap (4 * (n : Int)) = 4 * (n : Int) := wrap_small (by omega) (by omega)
    have k2 : IntKind.i64.wrap (4 * (n : Int) - 1) = 4 * (n : Int) - 1 := wrap_small (by omega) (by omega)
    rw [hl]
    clear hsz
    go_wp2_with fail
    refine hSm.mono ?_
    rintro e w5 ⟨rfl, J5⟩
    go_wp2_with fail
    go_ret
    exact ⟨rfl, bw_trans J1 (bw_trans J24 J5)⟩
end Go.Proofs.YtfibkhepjpehpaaGreatDoor
namespace Go.Proofs.YtfibkhepjpehpaaGreatDoor
open Go.RowKit Go.Sort

set_option maxHeartbeats 1000000 in
theorem of_rd (k : Nat) (a : Option Addr) (len cap r g : Nat) (ss : List ByteArray) (w : World) (hk : k ≤ 900000) (R : Rd w r k a len cap) (hl : w.heap[g]? = some (.cells (ss.map Value.string).toArray 9 (0, 0))) (n : Nat) (hN : ss.length = n) (hn : 1 ≤ n) (h5 : n ≤ 100) (hgr : g ≠ r) :
    Calls Tryz.prog 21 #[.pointer (some ⟨r, 0, none⟩), .slice (some ⟨g, 0, none⟩) n n] w fun e w' => ∃ s, s ∈ ss ∧ e = .returned (.string s) ∧ Rd w' r (k + 1) a len cap ∧ Only r w w' := by
  have HN : Hid (ss.length = n) := hN
  clear hN
  go_enter Tryz.func21, Tryz.ntmps21
  go_wp2_with fail
  refine (pick_rd n k a len cap r _ (by omega) (by omega) R).mono ?_
  rintro e w1 ⟨q, rfl, qa, qb, R1, O⟩
  obtain ⟨m, rfl⟩ := Int.eq_ofNat_of_zero_le qa
  have hm : m < ss.length := by rw [HN.out]; omega
  have c0 : w1.cell? ⟨g, m, none⟩ = some (.string ss[m]) := by
    rw [row_cell (keepO O hl hgr), List.getElem?_toArray, List.getElem?_map, List.getElem?_eq_getElem hm]; rfl
  have hmem := List.getElem_mem hm
  generalize ss[m] = s at *
  go_wp2_with fail
  go_ret
  exact ⟨s, hmem, rfl, R1, O⟩
set_option maxRecDepth 100000 in
set_option maxHeartbeats 4000000 in
theorem drawRead_any {a : Option Addr} {len0 cap : Nat} {zs : List Int} (w0 w : World) (h : IsRow .u8 w0 a len0 cap zs) (hb : Below w0.heap.size w0 w) :
    Calls Tryz.prog 10 #[.slice a len0 cap] w fun e w' => ∃ s : ByteArray, e = .returned (.string s) ∧ s.size ≤ 1000 ∧ Below w.heap.size w w' := by
  go_enter Tryz.func10, Tryz.ntmps10
  go_wp2_with fail
  refine (open_rd w0 _ h hb).mono ?_
  rintro e w1 ⟨len, rfl, R, hb1⟩
  have z1 := hb1.size
  have zr := R.lt
  go_wp2_with fail
  refine (loop_any 0 a len cap _ _ (by omega) R).mono ?_
  clear R
  rintro e w2 ⟨g, n, c, l, k', rfl, n3, n7, hl, hnc, hcm, hbg, hbl, hk', R, O⟩
  have zO := O.size
  go_wp2_with fail
  refine (sLoopText_any (some ⟨g, 0, none⟩) n c l (by omega) w2 (hbl.pts' hl)).mono ?_
  rintro e w3 ⟨rfl, J⟩
  have hts : (ltB l).size ≤ 352 := by
    unfold ltB
    split
    · rename_i hv
      have := txB_size l (fun p hp => by obtain ⟨i, hi, rfl⟩ := List.getElem_of_mem hp; have := okV_pt8 hv hi; rwa [ptAt_lt hi] at this)
      omega
    · exact Nat.zero_le _
  generalize ltB l = t at *
  replace R := R.below J
  replace O := O.trans ⟨J.os, J.tape, J.output, J.size, fun j _ hj => J.block j hj⟩
  have ht0 : (0 : Int) ≤ (t.size : Int) := Int.natCast_nonneg _
  have k1 : IntKind.i64.wrap ((t.size : Int) + 1) = (t.size : Int) + 1 := wrap_small (by omega) (by omega)
  go_wp2_with fail
  refine (pick_rd ((t.size : Int) + 1) k' a len cap _ _ (by omega) (by omega) R).mono ?_
  clear R
  rintro e w4 ⟨p, rfl, pa, pb, R, O4⟩
  obtain ⟨m, rfl⟩ := Int.eq_ofNat_of_zero_le pa
  replace O := O.trans O4
  go_wp2_with fail
  refine (pick_rd 8 (k' + 1) a len cap _ _ (by omega) (by omega) R).mono ?_
  clear R O4
  rintro e w5 ⟨q, rfl, qa, qb, R, O5⟩
  replace O := O.trans O5
  have BB : Below w.heap.size w w5 := hb1.trans (O.below' (B := w.heap.size) (Nat.le_refl _) (by omega))
  have hmt : m ≤ t.size := by omega
  by_cases q0 : q = 0
  · subst q0
    go_wp2_with fail
    go_ret
    exact ⟨t.extract 0 m, rfl, by rw [ByteArray.size_extract]; omega, BB⟩
  by_cases q1 : q = 1
  · subst q1
    have z5 := O.size
    have h4 : ∀ s ∈ ([⟨#[48]⟩, ⟨#[32]⟩, ⟨#[44]⟩, ⟨#[32, 53, 44, 53]⟩, ⟨#[120]⟩] : List ByteArray), s.size ≤ 4 := by
      intro s hs
      simp only [List.mem_cons, List.not_mem_nil, or_false] at hs
      rcases hs with rfl | rfl | rfl | rfl | rfl <;> decide
    have hOf := of_rd (k' + 1 + 1) a len cap _ w5.heap.size [⟨#[48]⟩, ⟨#[32]⟩, ⟨#[44]⟩, ⟨#[32, 53, 44, 53]⟩, ⟨#[120]⟩] ((w5.alloc (.cells #[.string ⟨#[48]⟩, .string ⟨#[32]⟩, .string ⟨#[44]⟩, .string ⟨#[32, 53, 44, 53]⟩, .string ⟨#[120]⟩] 9)).drew) (by omega) (R.alloc _).drew (heap_new w5 _) 5 rfl (by decide) (by decide) (by omega)
    have i0 : (0 : Int) ≤ (m : Int) := Int.natCast_nonneg _
    have i1 : (m : Int) ≤ (t.size : Int) := by omega
    go_wp2_with fail
    go_region_held3 (fun _ => True) (trivial) (first | (go_at_call 21; (with_reducible refine hOf.mono ?_); rintro e w6 ⟨s, hs, rfl, R6, O6⟩; have hs4 := h4 s hs; have y1 : (9223372036854775807 < min m t.size + s.size) = False := (by simp; omega); have y2 : (9223372036854775807 < m + s.size) = False := (by simp; omega); have y3 : (9223372036854775807 < min m t.size + s.size + (t.size - m)) = False := (by simp; omega); have y4 : (9223372036854775807 < m + s.size + (t.size - m)) = False := (by simp; omega); have y5 : min m t.size = m := (by omega)))
    go_wp2_with fail
    go_ret
    have OO := (O.alloc (.cells #[.string ⟨#[48]⟩, .string ⟨#[32]⟩, .string ⟨#[44]⟩, .string ⟨#[32, 53, 44, 53]⟩, .string ⟨#[120]⟩] 9)).drew.trans O6
    exact ⟨t.extract 0 m ++ s ++ t.extract m t.size, rfl, by rw [ByteArray.size_append, ByteArray.size_append, ByteArray.size_extract, ByteArray.size_extract]; omega, hb1.trans (OO.below' (B := w.heap.size) (Nat.le_refl _) (by omega))⟩
  · have x0 : (q == 0) = false := by simpa using q0
    have x1 : (q == 1) = false := by simpa using q1
    go_wp2_with fail
    go_ret
    exact ⟨t, rfl, by omega, BB⟩
end Go.Proofs.YtfibkhepjpehpaaGreatDoor
namespace Go.Proofs.YtfibkhepjpehpaaGreatDoor
open Go.RowKit Go.Sort

set_option maxRecDepth 100000 in
set_option maxHeartbeats 4000000 in
theorem loopStrict_walk (w : World) (a0 : Option Addr) (len0 cap0 : Nat) (z0 : List Int) (r0 : IsRow .u8 w a0 len0 cap0 z0) (hL : Lib4 w) :
    Calls Tryz.prog 4 #[.slice a0 len0 cap0] w fun e w' => e = .returned (.bool true) ∧ Below w.heap.size w w' := by
  by_cases hl0 : (1048576 : Int) < (len0 : Int)
  · go_enter Tryz.func4, Tryz.ntmps4
    go_wp2_with fail
    go_ret
    exact ⟨rfl, bw_refl _⟩
  go_enter Tryz.func4, Tryz.ntmps4
  go_wp2_with fail
  refine (drawRead_any w _ r0 (bw_refl _)).mono ?_
  rintro e w1 ⟨s, rfl, hs, J1⟩
  have hL1 := hL.below J1
  have hS := sLoopRead_ok s (by omega) w1
  have hR := fun V (J : Below w1.heap.size w1 V) => loopRead_any s (by omega) V (hL1.below J)
  cases hr : readL s with
  | none =>
    rw [hr] at hS hR
    go_wp2_with fail
    refine hS.mono ?_
    rintro e w2 ⟨v, l', rfl, hl', hown, J2⟩
    have hl2 : l' = [] := hl'
    subst hl2
    clear hl'
    go_wp2_with fail
    refine (hR _ J2).mono ?_
    rintro e w3 ⟨v3, l3, rfl, hl3, hown3, J3⟩
    have hl4 : l3 = [] := hl3
    subst hl4
    clear hl3
    obtain ⟨a2, c2, rfl, P2⟩ := (AnsT.of_own (own_b hown J3) rfl).own
    obtain ⟨a3, c3, rfl, P3⟩ := (AnsT.of_own hown3 rfl).own
    have hSm := luSame_same a3 a2 0 c3 c2 [] w3 P3 P2 (by omega)
    go_wp2_with fail
    refine hSm.mono ?_
    rintro e w4 ⟨rfl, J4⟩
    go_wp2_with fail
    refine (luSame_same a3 a2 0 c3 c2 [] w4 ((P3.below J4).grow J4.size) ((P2.below J4).grow J4.size) (by omega)).mono ?_
    rintro e w5 ⟨rfl, J5⟩
    go_wp2_with fail
    go_ret
    exact ⟨rfl, bw_trans J1 (bw_trans J2 (bw_trans J3 (bw_trans J4 J5)))⟩
  | some l =>
    obtain ⟨hk, htx⟩ := read_only hr
    rw [hr] at hS hR
    go_wp2_with fail
    refine hS.mono ?_
    rintro e w2 ⟨v, l', rfl, hl', hown, J2⟩
    have hl2 : l' = l := hl'
    rw [hl2] at hown
    clear hl' hl2
    go_wp2_with fail
    refine (hR _ J2).mono ?_
    rintro e w3 ⟨v3, l3, rfl, hl3, hown3, J3⟩
    have hl4 : l3 = l := hl3
    rw [hl4] at hown3
    clear hl3 hl4
    obtain ⟨a2, c2, rfl, P2⟩ := (AnsT.of_own (own_b hown J3) rfl).own
    obtain ⟨a3, c3, rfl, P3⟩ := (AnsT.of_own hown3 rfl).own
    have h8 := (okV_pts8 hk).2.1
    have hSm := luSame_same a3 a2 l.length c3 c2 l w3 P3 P2 (by omega)
    go_wp2_with fail
    refine hSm.mono ?_
    rintro e w4 ⟨rfl, J4⟩
    have hO := ok_any a3 l.length c3 l (by omega) w4 ((P3.below J4).grow J4.size)
    rw [hk] at hO
    go_wp2_with fail
    refine hO.mono ?_
    rintro e w5 ⟨rfl, J5⟩
    have J15 := bw_trans J2 (bw_trans J3 (bw_trans J4 J5))
    have J35 := bw_trans J4 J5
    have hT := loopText_any a3 l.length c3 l (by omega) w5 (hL1.below J15).tab ((P3.below J35).grow J35.size)
    have e1 : ltB l = s := by unfold ltB; rw [hk]; exact htx
    rw [e1] at hT
    go_wp2_with fail
    refine hT.mono ?_
    rintro e w6 ⟨rfl, J6⟩
    go_wp2_with fail
    go_ret
    exact ⟨rfl, bw_trans J1 (bw_trans J15 J6)⟩
end Go.Proofs.YtfibkhepjpehpaaGreatDoor
namespace Go.Proofs.YtfibkhepjpehpaaGreatDoor
open Go.ChangeShapes Go.WideShapes Go.ChangeAt Go.RowKit

theorem own : ownKnob Tryz.prog.godebug = none := by kernel_rfl
theorem laidOut : laidOutB Tryz.prog = true := by kernel_rfl
/-- The list. -/
def listTab : List (String × DataW Unit) := [("math/bits.deBruijn32tab", Rows.laid_math_bits_deBruijn32tab), ("math/bits.deBruijn64tab", Rows.laid_math_bits_deBruijn64tab), ("internal/strconv.uint64pow10", Rows.laid_internal_strconv_uint64pow10)]
theorem gPType : (Tryz.prog.globals[3]?).map (·.type) = some 117 := by kernel_rfl
theorem cellsU64 : Tryz.prog.cellsOf 98 = 1 := by kernel_rfl
theorem cellsTab : Tryz.prog.cellsOf 117 = 20 := by kernel_rfl
theorem tabSame : Rows.laid_internal_strconv_uint64pow10 (H := Unit) = Lib.tabData .u64 Lib.pow10Tab := by kernel_rfl
theorem tab_of_laid {W : World} (h : laidMetH Tryz.prog listTab W) : Tab W := by
  rw [MakeChecks.laidMetH_plain _ _ _ (by kernel_rfl)] at h
  have h3 : laidMet Tryz.prog [("internal/strconv.uint64pow10", Rows.laid_internal_strconv_uint64pow10)] W := (laidMet.tail (laidMet.tail h))
  rw [tabSame] at h3
  exact Lib.tabIs_of_head gP gPType Tryz.underlying117 Tryz.underlying98 cellsU64 cellsTab h3
/-- The door's own heap meets the condition. -/
theorem door_met_tab (os : Os) (args : Array Value) : laidMetH Tryz.prog listTab ((World.doorLaid Tryz.prog 72 os).forCall (fun _ _ => 0) ⟨#[], args, []⟩).memory :=
  laidMetH_of_parts3 (fuel := 8) (laidMet_of_run' 8 (by kernel_rfl) (by kernel_rfl)) (by kernel_rfl) (by kernel_rfl)
end Go.Proofs.YtfibkhepjpehpaaGreatDoor
namespace Go.Proofs.YtfibkhepjpehpaaGreatDoor
open Go.ChangeShapes Go.WideShapes Go.ChangeAt Go.RowKit

/-- The list. -/
def listAll : List (String × DataW Unit) := [("math/bits.deBruijn32tab", Rows.laid_math_bits_deBruijn32tab), ("math/bits.deBruijn64tab", Rows.laid_math_bits_deBruijn64tab), ("internal/strconv.uint64pow10", Rows.laid_internal_strconv_uint64pow10), ("unicode/utf8.acceptRanges", Rows.laid_unicode_utf8_acceptRanges), ("strconv.ErrRange", Rows.laid_strconv_ErrRange), ("strconv.ErrSyntax", Rows.laid_strconv_ErrSyntax), ("unicode/utf8.first", Rows.laid_unicode_utf8_first)]
theorem gRngType : (Tryz.prog.globals[5]?).map (·.type) = some 75 := by kernel_rfl
theorem gSynType : (Tryz.prog.globals[4]?).map (·.type) = some 75 := by kernel_rfl
theorem cellsES : Tryz.prog.cellsOf 131 = 1 := by kernel_rfl
theorem cellsStr : Tryz.prog.cellsOf 9 = 1 := by kernel_rfl
theorem star : "*" ++ "errors.errorString" = "*errors.errorString" := by decide
theorem rowES (u : TypeId) (h : Tryz.prog.typeName? 3 u = some "*errors.errorString") : u = 129 :=
  typeName_ptr_named (nm := "errors.errorString") (by rw [star]; kernel_rfl) (by kernel_rfl) (by decide) u (by rw [star]; exact h)
theorem all_of_laid {W : World} (h : laidMetH Tryz.prog listAll W) (hsh : W.ShapedOpen Tryz.prog) : Lib4 W := by
  rw [MakeChecks.laidMetH_plain _ _ _ (by kernel_rfl)] at h
  have h3 := laidMet.tail (laidMet.tail h)
  have h5 := laidMet.tail (laidMet.tail h3)
  have h6 := laidMet.tail h5
  refine ⟨?_, ?_, ?_, ?_⟩
  · rw [tabSame] at h3
    exact Lib.tabIs_of_head gP gPType Tryz.underlying117 Tryz.underlying98 cellsU64 cellsTab h3
  · exact cell_of_shapedOpen_int hsh (g := 0) (t := 3) (zero := #[.int .i64 0]) (of_decide_eq_true (by kernel_rfl)) (by kernel_rfl) rfl (by kernel_rfl) (by kernel_rfl) Tryz.underlying3
  · obtain ⟨a, s, hv, _, _, _⟩ := laid_sentinel h6 gSyn gSynType Tryz.underlying75 rowES Tryz.underlying129 Tryz.underlying131 rfl rfl Tryz.underlying9 cellsES cellsStr
    exact ⟨_, _, hv⟩
  · obtain ⟨a, s, hv, _, _, _⟩ := laid_sentinel h5 gRng gRngType Tryz.underlying75 rowES Tryz.underlying129 Tryz.underlying131 rfl rfl Tryz.underlying9 cellsES cellsStr
    exact ⟨_, _, hv⟩
/-- A heap in which all of them lie. -/
theorem met_all (os : Os) (args : Array Value) : laidMetH Tryz.prog listAll ((World.laidAll Tryz.prog os listAll).forCall (fun _ _ => 0) ⟨#[], args, []⟩).memory := by
  rw [MakeChecks.laidMetH_plain _ _ _ (by kernel_rfl)]
  exact laidMet_laidAll _ (by kernel_rfl) (by kernel_rfl)
theorem shaped_all (os : Os) (args : Array Value) : ((World.laidAll Tryz.prog os listAll).forCall (fun _ _ => 0) ⟨#[], args, []⟩).Shaped Tryz.prog := World.shaped_of_ZipB (by kernel_rfl) (by kernel_rfl)
/-- The wrap: what is listed, and the world's shape. -/
theorem returns_and_shaped {H : Type} {enc : TypeId × Value → H} {a : Assume} {C : Checked} {os : Os} {f : FuncId} {fn : Func} {s : ChangeSpec} {conds : List PathCond} {apart fresh handsOn again : Bool} {X : World → Array Value → Prop}
    (hX : ∀ (w w' : World) (args : Array Value), w.heap = w'.heap → X w args → X w' args)
    (own : ownKnob C.prog.godebug = none) (started : os.Started) (noInit : C.prog.inits.idxOf? f = none) (hfn : C.prog.funcs[f]? = some fn)
    (witness : ∃ (w : World) (tape : Tape) (i : Input), w.os = os ∧ (w.forCall tape i).Shaped C.prog ∧ i.vars = [] ∧ Input.okWide C.prog (w.forCall tape i) .any w.heap.size f i ∧
      ((s.pre enc C.prog fn conds apart (w.forCall tape i).memory i.args ∧ X (w.forCall tape i).memory i.args) ∧ sizedMet enc C.prog fn (OpenSpec.ofChange s) apart (w.forCall tape i).memory i.args) ∧ a.holds C.prog (lone (Frame.enter C.prog f i.args .normal) [] (w.forCall tape i)))
    (contract : ∀ (W : World) (base : Nat) (args : Array Value) (ds gs : List (DataW H)) (before : List MemPlace),
      (∀ (j : Nat) t v, fn.params[j]? = some t → args[j]? = some v → Value.okWide C.prog W .any base t v) →
      DataW.Whole enc C.prog fn.params.toList s.vars apart W args.toList ds gs before → X W args → W.ShapedOpen C.prog →
      Calls C.prog f args W fun e W' => ∃ v, e = .returned v ∧ s.post enc C.prog fn apart fresh handsOn again W args v W') :
    ReturnsInHanded a C os f .any (fun w args => (s.pre enc C.prog fn conds apart w args ∧ X w args) ∧ sizedMet enc C.prog fn (OpenSpec.ofChange s) apart w args) (s.post enc C.prog fn apart fresh handsOn again) := by
  refine returnsInHanded_of_calls own started noInit witness fun w tape i _ hsh _ hok hpre _ => ?_
  obtain ⟨_, _, _, g, hg, _, _, _, _, hval⟩ := hok
  obtain rfl : g = fn := Option.some.inj (hg.symm.trans hfn)
  obtain ⟨⟨⟨ds, gs, before, hw, _⟩, hx⟩, _⟩ := hpre
  refine (contract (w.forCall tape i) w.heap.size i.args ds gs before hval (DataW.Whole.of_heap (w' := w.forCall tape i) (by rfl) hw) (hX _ _ _ (by rfl) hx) hsh).mono fun e W' ⟨v, he, hp⟩ => ?_
  subst he
  exact ChangeSpec.post_blind hp
end Go.Proofs.YtfibkhepjpehpaaGreatDoor
namespace Go.Proofs.YtfibkhepjpehpaaGreatDoor
open Go.ChangeShapes Go.WideShapes Go.ChangeAt Go.RowKit Go.Joins
open Go.ChangeMaps (open_string shut_string)

set_option maxRecDepth 100000 in
theorem fnLoopStrict_lifted (os : Os) (started : os.Started) (H : Type) (enc : TypeId × Value → H) :
    ReturnsInHanded {} Tryz.checked os 4 .any (fun w args => (Rows.fnLoopStrictSpec.pre enc Tryz.prog Tryz.f4 [] false w args ∧ laidMetH Tryz.prog Rows.fnLoopStrictRow.laid w) ∧ sizedMet enc Tryz.prog Tryz.f4 (OpenSpec.ofChange Rows.fnLoopStrictSpec) false w args)
      (Rows.fnLoopStrictSpec.post enc Tryz.prog Tryz.f4 false true false false) := by
  refine returns_and_shaped (C := Tryz.checked) (X := fun w _ => laidMetH Tryz.prog Rows.fnLoopStrictRow.laid w) (fun _ _ _ hh h => h.of_heap hh) own started (by kernel_rfl) Tryz.func4
    (ChangeSpec.witness_shaped (enc := enc) (C := Tryz.checked) (os := os) (X := fun w _ => laidMetH Tryz.prog Rows.fnLoopStrictRow.laid w) false (World.laidAll Tryz.prog os listAll) #[.slice none 0 0] 8 (World.laidAll_os _ _ _) (shaped_all os _) (by kernel_rfl) (by kernel_rfl) (by kernel_rfl) (met_all os _)) ?_
  intro W base args ds gs before hval0 hW hL hsh
  have hval : ∀ (j : Nat) t v, Tryz.f4.params[j]? = some t → args[j]? = some v → Value.okWide Tryz.prog W .any base t v := hval0
  have hW' := hW
  obtain ⟨p, q, hA0, hV, rfl, hfz, hnd⟩ := hW
  have hA : DataW.TrodAll enc Tryz.prog W 0 (fun _ => true) true Tryz.f4.params.toList args.toList ds p := hA0
  rw [Tryz.params4] at hA hval
  obtain ⟨v0, vs0, d0, ds0, p0, q0, hargs, rfl, rfl, h0, r0⟩ := trodAll_cons hA
  obtain ⟨rfl, rfl, rfl⟩ := trodAll_nil r0
  obtain rfl : args = #[v0] := by cases args; simp_all
  obtain ⟨rfl, rfl⟩ := trodVars_none hV
  have htab := all_of_laid hL hsh
  have k0 := h0
  have lt0 : ∀ x ∈ p0, x.block < W.heap.size := by obtain ⟨m, hm⟩ := k0; exact DataW.trod_lt m _ _ _ hm
  obtain ⟨a0, len0, cap0, rfl⟩ := okWide_slice Tryz.underlying22 (hval 0 22 v0 rfl rfl)
  obtain ⟨z0, w0⟩ : ∃ zs, IsRow .u8 W a0 len0 cap0 zs := by
    obtain ⟨fuel, hf⟩ := h0
    rcases open_ints Tryz.underlying22 Tryz.underlying5 (by kernel_rfl) hf with ⟨hcs, _⟩ | ⟨x, l, c, zs, hcs, _, hl, hm, hz, _, hcell, hwz⟩
    · simp [Value.cells] at hcs
      obtain ⟨rfl, rfl, rfl⟩ := hcs
      exact ⟨[], .inl ⟨rfl, rfl, rfl, rfl⟩⟩
    · simp [Value.cells] at hcs
      obtain ⟨rfl, rfl, rfl⟩ := hcs
      exact ⟨zs, .inr ⟨_, rfl, hl, hm, by simpa using hz, hcell, hwz⟩⟩
  clear hA0 hval0
  refine (loopStrict_walk W a0 len0 cap0 z0 w0 htab).mono fun e W' ⟨he, bel⟩ => ?_
  subst he
  exact ⟨_, rfl, _, _, _, [], _, [], hW', trodAll_mk1 (shut_bool Tryz.underlying4 _), (trodAll_cons_mk (Below.trod laidOut (by kernel_rfl) (of_decide_eq_true (by kernel_rfl)) k0 bel lt0) trodAll_mk0), rfl, bel.frame _, fun h => by cases h⟩

theorem fnLoopStrict_said : Rows.FnLoopStrictSaid :=
  OpenClaim.holds_of_wide 4 Tryz.f4 rfl rfl rfl rfl rfl rfl rfl ⟨rfl, rfl, rfl, rfl, rfl⟩ rfl rfl rfl rfl rfl (by kernel_rfl) Tryz.func4 (by kernel_rfl)
    (of_decide_eq_true (by kernel_rfl)) (by unfold Func.isWrapper; first | (rw [if_pos (by decide +kernel)]; kernel_rfl) | (rw [if_neg (by decide +kernel)]; exact ⟨rfl, rfl⟩))
    (fun os started H enc _ => fnLoopStrict_lifted os started H enc)

theorem fnLoopStrict_plain (f : FuncId) (fn : Func) (hf : Tryz.pinned.checked.prog.funcNamed "loop.example/mortiser/laws.FnLoopStrict" = some f) (hfn : Tryz.pinned.checked.prog.funcs[f]? = some fn) :
    true = Tryz.pinned.checked.prog.looks [] ∧ ∀ (j : Nat) t, fn.params[j]? = some t → Tryz.pinned.checked.prog.wantsStandIn t = false := by
  obtain rfl : f = 4 := Option.some.inj ((show Tryz.prog.funcNamed "loop.example/mortiser/laws.FnLoopStrict" = some 4 by kernel_rfl).symm.trans hf) |>.symm
  obtain rfl : fn = Tryz.f4 := (Option.some.inj (Tryz.func4.symm.trans hfn)).symm
  refine ⟨by kernel_rfl, fun j t ht => ?_⟩
  rw [Tryz.params4] at ht
  have hm := Array.mem_of_getElem? ht
  simp only [List.mem_toArray, List.mem_cons, List.not_mem_nil, or_false] at hm
  subst hm
  exact (show Tryz.prog.wantsStandIn 22 = false by kernel_rfl)

/-- THE STATEMENT. -/
theorem fnLoopStrict_card : Rows.FnLoopStrictCardSaid :=
  Claim7.holds_tied_plain_at .later [] _ _ _ _ fnLoopStrict_said (fun _ h => by cases h) (by kernel_rfl) (fun _ h => by cases h) fnLoopStrict_row_tie rfl ⟨rfl, rfl⟩ (by kernel_rfl) rfl fnLoopStrict_plain (by kernel_rfl)
end Go.Proofs.YtfibkhepjpehpaaGreatDoor
