/-
  OUR OWN TEXT. The text of a path: a line of each turn; bytes alone.
-/
import Derived.Test.YtfdnadiliedikaaDoorCodeM5
import Derived.Test.YtfdnadiliedikaaDoorDec
namespace Go.Proofs.YtfdnadiliedikaaDoor
open Go.RowKit

/-- The line of the turn at a place. -/
def cwL (k : Nat) : List UInt8 := if k = 0 then [71, 48] else [71, 49]
def lnL (k : Nat) (p : P2) : List UInt8 := cwL k ++ [32, 88] ++ Lib.decDigits p.1.toNat ++ [32, 89] ++ Lib.decDigits p.2.toNat ++ [10]
def lnB (k : Nat) (p : P2) : ByteArray := ⟨(lnL k p).toArray⟩
def cdF : Nat → List P2 → List UInt8
  | _, [] => []
  | k, p :: r => lnL k p ++ cdF (k + 1) r
/-- The lines of turns. -/
def cdL (t : List P2) : List UInt8 := cdF 0 t
def cdB (t : List P2) : ByteArray := ⟨(cdL t).toArray⟩
theorem cdF_snoc (t : List P2) (p : P2) : ∀ k, cdF k (t ++ [p]) = cdF k t ++ lnL (k + t.length) p := by
  induction t with
  | nil => intro k; simp [cdF]
  | cons q r ih => intro k; simp only [List.cons_append, cdF, ih, List.append_assoc, List.length_cons]; congr 3; omega
theorem cdL_snoc (t : List P2) (p : P2) : cdL (t ++ [p]) = cdL t ++ lnL t.length p := by unfold cdL; rw [cdF_snoc, Nat.zero_add]
theorem cdB_snoc (t : List P2) (p : P2) : cdB (t ++ [p]) = cdB t ++ lnB t.length p := by
  unfold cdB lnB
  rw [cdL_snoc]
  apply ByteArray.ext
  simp
theorem dgt_one {x : Int} (h0 : 0 ≤ x) (h1 : x ≤ 9) : Lib.decDigits x.toNat = [UInt8.ofNat (48 + x.toNat)] := dec_lt _ (by omega)
theorem okP_iff (p : P2) : okP p = true ↔ (0 ≤ p.1 ∧ p.1 ≤ 9) ∧ 0 ≤ p.2 ∧ p.2 ≤ 9 := by
  unfold okP
  rw [ptB_iff]
  constructor
  · intro h; omega
  · intro h; omega
theorem lnL_9 {k : Nat} {p : P2} (hp : okP p = true) : lnL k p = cwL k ++ [32, 88, UInt8.ofNat (48 + p.1.toNat), 32, 89, UInt8.ofNat (48 + p.2.toNat), 10] := by
  obtain ⟨⟨h0, h1⟩, h2, h3⟩ := (okP_iff p).1 hp
  unfold lnL
  rw [dgt_one h0 h1, dgt_one h2 h3]
  simp
theorem cwL_len (k : Nat) : (cwL k).length = 2 := by unfold cwL; split <;> rfl
theorem lnL_len {k : Nat} {p : P2} (hp : okP p = true) : (lnL k p).length = 9 := by rw [lnL_9 hp, List.length_append, cwL_len]; rfl
theorem lnB_size {k : Nat} {p : P2} (hp : okP p = true) : (lnB k p).size = 9 := by
  have := lnL_len (k := k) hp
  unfold lnB ByteArray.size
  simpa using this
theorem cdF_len {t : List P2} (h : ∀ p ∈ t, okP p = true) : ∀ k, (cdF k t).length = 9 * t.length := by
  induction t with
  | nil => intro k; rfl
  | cons q r ih =>
    intro k
    simp only [cdF, List.length_append, List.length_cons]
    rw [ih (fun p hp => h p (List.mem_cons_of_mem _ hp)), lnL_len (h q List.mem_cons_self)]
    omega
theorem cdL_len {t : List P2} (h : ∀ p ∈ t, okP p = true) : (cdL t).length = 9 * t.length := cdF_len h 0
theorem cdB_size {t : List P2} (h : ∀ p ∈ t, okP p = true) : (cdB t).size = 9 * t.length := by
  have := cdL_len h
  unfold cdB ByteArray.size
  simpa using this
theorem dgt_inj {a b : Nat} (ha : a ≤ 9) (hb : b ≤ 9) (h : UInt8.ofNat (48 + a) = UInt8.ofNat (48 + b)) : a = b := by
  have := congrArg UInt8.toNat h
  simp only [UInt8.toNat_ofNat'] at this
  omega
theorem lnL_inj {k : Nat} {p q : P2} (hp : okP p = true) (hq : okP q = true) (h : lnL k p = lnL k q) : p = q := by
  rw [lnL_9 hp, lnL_9 hq] at h
  have h := List.append_cancel_left h
  obtain ⟨⟨h0, h1⟩, h2, h3⟩ := (okP_iff p).1 hp
  obtain ⟨⟨g0, g1⟩, g2, g3⟩ := (okP_iff q).1 hq
  simp only [List.cons.injEq, and_true, true_and] at h
  have e1 := dgt_inj (by omega) (by omega) h.1
  have e2 := dgt_inj (by omega) (by omega) h.2
  exact Prod.ext (by omega) (by omega)
theorem cdF_inj : ∀ {t u : List P2} {k : Nat}, (∀ p ∈ t, okP p = true) → (∀ p ∈ u, okP p = true) → cdF k t = cdF k u → t = u := by
  intro t
  induction t with
  | nil =>
    intro u k _ hu h
    have := congrArg List.length h
    rw [cdF_len hu] at this
    simp only [cdF, List.length_nil] at this
    exact (List.eq_nil_of_length_eq_zero (by omega)).symm
  | cons p r ih =>
    intro u k ht hu h
    cases u with
    | nil =>
      have := congrArg List.length h
      rw [cdF_len ht] at this
      simp [cdF] at this
    | cons q s =>
      have hp := ht p List.mem_cons_self
      have hq := hu q List.mem_cons_self
      simp only [cdF] at h
      obtain ⟨h1, h2⟩ := List.append_inj h (by rw [lnL_len hp, lnL_len hq])
      rw [lnL_inj hp hq h1, ih (fun x hx => ht x (List.mem_cons_of_mem _ hx)) (fun x hx => hu x (List.mem_cons_of_mem _ hx)) h2]
theorem turns_okP {l : List P2} (h : pathP l = true) : ∀ p ∈ turnsL l, okP p = true := fun p hp => (pathP_parts h).2.1 p (turnsL_mem hp)
/-- Two paths of one text are one. -/
theorem cdL_one {l m : List P2} (hl : pathP l = true) (hm : pathP m = true) (h : cdL (turnsL l) = cdL (turnsL m)) : l = m := by
  have e := cdF_inj (turns_okP hl) (turns_okP hm) h
  rw [← (stayV_turns hl).2, e, (stayV_turns hm).2]
/-- The text of a path; none, if it is none. -/
def cdV (l : List P2) : ByteArray := if pathP l then cdB (turnsL l) else ⟨#[]⟩
theorem turnsL_le (l : List P2) : (turnsL l).length ≤ l.length := turnsK_len l l.length
theorem cdV_size (l : List P2) : (cdV l).size ≤ 3600 := by
  unfold cdV
  split
  · rename_i h
    have h1 := cdB_size (turns_okP h)
    have h2 := turnsL_le l
    have h3 := (pathP_parts h).1.2
    omega
  · exact Nat.zero_le _
theorem cdL_head {t : List P2} (h : 1 ≤ t.length) : ∃ r, cdL t = 71 :: 48 :: r := by
  cases t with
  | nil => simp at h
  | cons p r => exact ⟨_, rfl⟩
end Go.Proofs.YtfdnadiliedikaaDoor
