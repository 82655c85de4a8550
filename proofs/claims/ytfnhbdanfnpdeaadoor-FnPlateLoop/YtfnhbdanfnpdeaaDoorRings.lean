/-
  OUR OWN TEXT. Rings, one behind the other, as they lie in memory. No function of the program stands in it.
-/
import Derived.Test.YtfnhbdanfnpdeaaDoorBack
import Derived.Test.YtfnhbdanfnpdeaaDoorFree
import Derived.Test.YtfnhbdanfnpdeaaDoorPlateM
namespace Go.Proofs.YtfnhbdanfnpdeaaDoor
open Go.RowKit Go.Shelf

/-- A ring: where its points lie, and the points. -/
structure RingT where
  a : Option Addr
  len : Nat
  cap : Nat
  pts : List P2
/-- Rings, one behind the other, from an address on: their points lie below n₀. -/
def RingL (n₀ : Nat) (W : World) : Option Addr → List RingT → Prop
  | p, [] => p = none
  | p, x :: xs => ∃ (b : Nat) (q : Option Addr) (t : TypeId), p = some ⟨b, 0, none⟩ ∧ Lies b #[.slice x.a x.len x.cap, .pointer q] t W ∧ x.len ≤ 1048576 ∧ Pts n₀ W x.a x.len x.pts ∧ RingL n₀ W q xs
theorem RingL.below {n₀ : Nat} {W W' : World} (h : Below W.heap.size W W') (hn : n₀ ≤ W.heap.size) : ∀ {p : Option Addr} {xs : List RingT}, RingL n₀ W p xs → RingL n₀ W' p xs
  | _, [], hl => hl
  | _, _ :: _, ⟨b, q, t, hp, hb, hl, hP, hr⟩ => ⟨b, q, t, hp, hb.below h, hl, hP.below (h.mono hn), RingL.below h hn hr⟩
theorem RingL.grow {n₀ n₁ : Nat} {W : World} (k : n₀ ≤ n₁) : ∀ {p : Option Addr} {xs : List RingT}, RingL n₀ W p xs → RingL n₁ W p xs
  | _, [], hl => hl
  | _, _ :: _, ⟨b, q, t, hp, hb, hl, hP, hr⟩ => ⟨b, q, t, hp, hb, hl, hP.grow k, RingL.grow k hr⟩
theorem RingL.len {n₀ n₁ : Nat} {W : World} : ∀ {p : Option Addr} {xs ys : List RingT}, RingL n₀ W p xs → RingL n₁ W p ys → xs.length = ys.length
  | _, [], [], _, _ => rfl
  | _, [], _ :: _, h, ⟨_, _, _, hp, _⟩ => by rw [h] at hp; cases hp
  | _, _ :: _, [], ⟨_, _, _, hp, _⟩, h => by rw [h] at hp; cases hp
  | _, x :: xs, y :: ys, ⟨b, q, t, hp, hb, _, _, hr⟩, ⟨b', q', t', hp', hb', _, _, hr'⟩ => by
    rw [hp] at hp'; cases hp'
    unfold Lies at hb hb'
    rw [hb] at hb'
    simp only [Option.some.injEq, Obj.cells.injEq] at hb'
    have e2 : some (Value.pointer q) = some (Value.pointer q') := congrArg (fun (v : Array Value) => v[1]?) hb'.1
    simp only [Option.some.injEq, Value.pointer.injEq] at e2
    subst e2
    rw [List.length_cons, List.length_cons, RingL.len hr hr']
open Classical in
/-- How many rings are still to come. -/
noncomputable def ringsLeft (W : World) (v : Value) : Nat :=
  if h : ∃ r : Nat × Option Addr × List RingT, v = .pointer r.2.1 ∧ RingL r.1 W r.2.1 r.2.2 then (Classical.choose h).2.2.length else 0
theorem ringsLeft_eq {n₀ : Nat} {W : World} {q : Option Addr} {xs : List RingT} (h : RingL n₀ W q xs) : ringsLeft W (.pointer q) = xs.length := by
  have hex : ∃ r : Nat × Option Addr × List RingT, Value.pointer q = .pointer r.2.1 ∧ RingL r.1 W r.2.1 r.2.2 := ⟨(n₀, q, xs), rfl, h⟩
  unfold ringsLeft
  rw [dif_pos hex]
  obtain ⟨e, hl⟩ := Classical.choose_spec hex
  have e' : q = (Classical.choose hex).2.1 := by simpa using e
  rw [← e'] at hl
  exact hl.len h
/-- Lying rings abide what a round does. -/
theorem lies2 {b : Nat} {x y : Value} {t : TypeId} {W : World} (h : Lies b #[x, y] t W) : W.cell? ⟨b, 0, none⟩ = some x ∧ W.cell? ⟨b, 1, none⟩ = some y ∧ W.frozen? ⟨b, 0, none⟩ = false ∧ W.frozen? ⟨b, 1, none⟩ = false := by
  unfold Lies at h
  refine ⟨?_, ?_, ?_, ?_⟩ <;> simp [World.cell?, World.frozen?, h]
theorem Lies.other' {B B' i : Nat} {cs : Array Value} {t : TypeId} {W : World} (h : Lies B cs t W) (hne : B ≠ B') (u : Value) : Lies B cs t (W.setCell ⟨B', i, none⟩ u) := (Below.heap_setCell W ⟨B', i, none⟩ u B hne).trans h
/-- The same, the points apart: blocks alone, all at or beyond base. -/
def RingB (base : Nat) (W : World) : Option Addr → List (Option Addr × Nat × Nat) → Prop
  | p, [] => p = none
  | p, x :: xs => ∃ (b : Nat) (q : Option Addr), p = some ⟨b, 0, none⟩ ∧ base ≤ b ∧ Lies b #[.slice x.1 x.2.1 x.2.2, .pointer q] 72 W ∧ RingB base W q xs
theorem ringB_own (base : Nat) : ∀ (xs : List (Option Addr × Nat × Nat)) (p : Option Addr) (W W' : World) (row : Option Nat), RingB base W p xs → W.grownBy W' row → (∀ r, row = some r → ∃ o : Obj, W.heap[r]? = some o ∧ o.isCells = false) → RingB base W' p xs
  | [], _, _, _, _, h, _, _ => h
  | _ :: xs, _, W, W', row, ⟨b, q, hp, hb, hl, hr⟩, hg, hrow => ⟨b, q, hp, hb, lies_own (β := Unit) b _ _ () W W' row hl hg hrow, ringB_own base xs q W W' row hr hg hrow⟩
theorem RingB.other {base : Nat} {W : World} {B : Nat} (i : Nat) (v : Value) : ∀ {p : Option Addr} {xs : List (Option Addr × Nat × Nat)}, RingB base W p xs → B < base → RingB base (W.setCell ⟨B, i, none⟩ v) p xs
  | _, [], h, _ => h
  | _, _ :: _, ⟨b, q, hp, hb, hl, hr⟩, hB => ⟨b, q, hp, hb, (Below.heap_setCell W ⟨B, i, none⟩ v b (by show b ≠ B; omega)).trans hl, RingB.other i v hr hB⟩
theorem RingB.rings {base n₀ : Nat} {W : World} : ∀ {p : Option Addr} {xs : List RingT}, RingB base W p (xs.map fun x => (x.a, x.len, x.cap)) → (∀ x ∈ xs, x.len ≤ 1048576 ∧ Pts n₀ W x.a x.len x.pts) → RingL n₀ W p xs
  | _, [], h, _ => h
  | _, x :: xs, ⟨b, q, hp, hb, hl, hr⟩, hx => ⟨b, q, _, hp, hl, (hx x (by simp)).1, (hx x (by simp)).2, RingB.rings hr (fun y hy => hx y (by simp [hy]))⟩
end Go.Proofs.YtfnhbdanfnpdeaaDoor
