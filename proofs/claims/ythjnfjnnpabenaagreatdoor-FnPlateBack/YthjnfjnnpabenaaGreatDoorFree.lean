/-
  OUR OWN TEXT. An edge that is free of all others, by contract, at every points.
-/
import Derived.Test.YthjnfjnnpabenaaGreatDoorEdgeS
import Derived.Test.YthjnfjnnpabenaaGreatDoorHas
namespace Go.Proofs.YthjnfjnnpabenaaGreatDoor
open Go.RowKit Go.Shelf
attribute [local go_sem] Oper.semAt_some

theorem KeepsOthers.of_below {W W' : World} (h : Below W.heap.size W W') : KeepsOthers W W' :=
  ⟨h.size, fun k _ hk _ => (h.block k (Array.getElem?_eq_some_iff.1 hk).1).trans hk⟩
/-- A block of cells lies as it lay. -/
def Lies (B : Nat) (cs : Array Value) (t : TypeId) (W : World) : Prop := W.heap[B]? = some (.cells cs t (0, 0))
theorem lies_own {β : Type} (B : Nat) (cs : Array Value) (t : TypeId) : Own (fun (_ : β) W => Lies B cs t W) := fun _ X Y row hs hg hrow =>
  (hg.block B (Array.getElem?_eq_some_iff.1 hs).1 (fun e' => by obtain ⟨o, ho, hc⟩ := hrow B e'.symm; rw [show X.heap[B]? = _ from hs] at ho; cases ho; cases hc)).trans hs
theorem lies_from {β : Type} (N B : Nat) (cs : Array Value) (t : TypeId) : OwnFrom N (fun (_ : β) W => Lies B cs t W) := (lies_own B cs t).from N
theorem liesF_own {β : Type} (B : Nat) (f : β → Value) (t : TypeId) : Own (fun s W => Lies B #[f s] t W) := boxed_own B t f
theorem Lies.lt {B : Nat} {cs : Array Value} {t : TypeId} {W : World} (h : Lies B cs t W) : B < W.heap.size := (Array.getElem?_eq_some_iff.1 h).1
theorem Lies.below {B : Nat} {cs : Array Value} {t : TypeId} {W W' : World} (h : Lies B cs t W) (k : Below W.heap.size W W') : Lies B cs t W' := (k.block B h.lt).trans h
theorem Lies.alloc {B : Nat} {cs : Array Value} {t : TypeId} {W : World} (h : Lies B cs t W) (o : Obj) : Lies B cs t (W.alloc o) := (Below.heap_alloc W o B h.lt).trans h
theorem Lies.drew {B : Nat} {cs : Array Value} {t : TypeId} {W : World} (h : Lies B cs t W) : Lies B cs t W.drew := h
theorem Lies.new (W : World) (cs : Array Value) (t : TypeId) : Lies W.heap.size cs t (W.alloc (.cells cs t)) := World.alloc_heap_new W _
theorem Lies.new' (W : World) (k : Nat) (hk : W.heap.size = k) (cs : Array Value) (t : TypeId) : Lies k cs t (W.alloc (.cells cs t)) := hk ▸ Lies.new W cs t
theorem Lies.other {B B' : Nat} {cs : Array Value} {t : TypeId} {W : World} (h : Lies B cs t W) (hne : B ≠ B') (u : Value) : Lies B cs t (W.setCell ⟨B', 0, none⟩ u) :=
  ((grownBy_setCell' W B' u).block B h.lt (fun e => hne (by cases e; rfl))).trans h
theorem Lies.set1 {B : Nat} {v : Value} {t : TypeId} {W : World} (h : Lies B #[v] t W) (u : Value) : Lies B #[u] t (W.setCell ⟨B, 0, none⟩ u) := Boxed.set u h
theorem Lies.c1 {B : Nat} {v : Value} {t : TypeId} {W : World} (h : Lies B #[v] t W) : W.cell? ⟨B, 0, none⟩ = some v := Boxed.cell h
theorem Lies.f1 {B : Nat} {v : Value} {t : TypeId} {W : World} (h : Lies B #[v] t W) : W.frozen? ⟨B, 0, none⟩ = false := Boxed.frozen h
theorem Lies.c4 {B : Nat} {x0 x1 x2 x3 : Value} {t : TypeId} {W : World} (h : Lies B #[x0, x1, x2, x3] t W) : W.cell? ⟨B, 0, none⟩ = some x0 ∧ W.cell? ⟨B, 1, none⟩ = some x1 ∧ W.cell? ⟨B, 2, none⟩ = some x2 ∧ W.cell? ⟨B, 3, none⟩ = some x3 := blk_4 h
theorem Lies.put {B l : Nat} {cs : Array Value} {t : TypeId} {W : World} {o : Obj} (h : Lies B cs t W) (o' : Obj) (hl : W.heap[l]? = some o) (hc : o.isCells = false) : Lies B cs t (W.putObj l o') :=
  lies_own (β := Unit) B cs t () W _ (some l) h (grownBy_putObj' W l o') (fun r e => by cases e; exact ⟨_, hl, hc⟩)

theorem back_any (a b c d : P2) (w : World) :
    Calls Tryz.prog 78 #[sgv a b, sgv c d] w fun e w' => e = .returned (.bool (hasQ a b d || hasQ c d a)) ∧ Below w.heap.size w w' := by
  unfold sgv
  have q1 : ∀ a b p : P2, hasQ a b p = hasV a.1 a.2 b.1 b.2 p.1 p.2 := fun a b p => rfl
  cases h : hasQ a b d
  · rw [q1] at h
    go_enter Tryz.func78, Tryz.ntmps78
    go_wp2_with fail
    refine (has_any _ _ _ _ _ _ _).mono ?_
    rw [h]
    rintro e w1 ⟨rfl, J⟩
    obtain ⟨hc, hf⟩ := bcell J
    go_wp2_with fail
    refine (has_any _ _ _ _ _ _ _).mono ?_
    rintro e w1 ⟨rfl, J2⟩
    replace J := bw_trans J J2
    clear hc hf J2
    obtain ⟨hc, hf⟩ := bcell J
    go_wp2_with fail
    go_ret
    exact ⟨ret_bool (by rw [q1]; rfl), bw_trans (by repeat (first | exact bw_refl _ | assumption | apply bw_drewN | apply bw_drew | apply bw_alloc | refine bw_set ?_ (by simp) _)) J⟩
  · rw [q1] at h
    go_enter Tryz.func78, Tryz.ntmps78
    go_wp2_with fail
    refine (has_any _ _ _ _ _ _ _).mono ?_
    rw [h]
    rintro e w1 ⟨rfl, J⟩
    obtain ⟨hc, hf⟩ := bcell J
    go_wp2_with fail
    go_ret
    exact ⟨rfl, bw_trans (by repeat (first | exact bw_refl _ | assumption | apply bw_drewN | apply bw_drew | apply bw_alloc | refine bw_set ?_ (by simp) _)) J⟩
theorem back_raw (a b c d : P2) (w : World) :
    Calls Tryz.prog 78 #[.agg #[.int .i64 a.1, .int .i64 a.2, .int .i64 b.1, .int .i64 b.2], .agg #[.int .i64 c.1, .int .i64 c.2, .int .i64 d.1, .int .i64 d.2]] w fun e w' => e = .returned (.bool (hasQ a b d || hasQ c d a)) ∧ Below w.heap.size w w' := back_any a b c d w
theorem meet_raw (a b c d : P2) (w : World) :
    Calls Tryz.prog 79 #[.agg #[.int .i64 a.1, .int .i64 a.2, .int .i64 b.1, .int .i64 b.2], .agg #[.int .i64 c.1, .int .i64 c.2, .int .i64 d.1, .int .i64 d.2]] w fun e w' => e = .returned (.bool (meetQ a b c d)) ∧ Below w.heap.size w w' := meet_any _ _ _ _ _ _ _ _ w
theorem has_raw (a b p : P2) (w : World) :
    Calls Tryz.prog 91 #[.agg #[.int .i64 a.1, .int .i64 a.2, .int .i64 b.1, .int .i64 b.2], .agg #[.int .i64 p.1, .int .i64 p.2]] w fun e w' => e = .returned (.bool (hasQ a b p)) ∧ Below w.heap.size w w' := has_any _ _ _ _ _ _ w
theorem segOk_raw (a b : P2) (w : World) :
    Calls Tryz.prog 58 #[.agg #[.int .i64 a.1, .int .i64 a.2, .int .i64 b.1, .int .i64 b.2]] w fun e w' => e = .returned (.bool (sgP a b)) ∧ Below w.heap.size w w' := segOk_any _ _ _ _ w
end Go.Proofs.YthjnfjnnpabenaaGreatDoor
