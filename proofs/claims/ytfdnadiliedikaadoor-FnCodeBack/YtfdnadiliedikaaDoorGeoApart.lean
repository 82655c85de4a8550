/-
  OUR OWN TEXT. Plain geometry: how far two segments are apart. No program stands in it.
-/
import Derived.Test.YtfdnadiliedikaaDoorGeo
namespace Go.Proofs.YtfdnadiliedikaaDoor

/-- The lesser of two fractions. -/
def mn (f g : Int × Int) : Int × Int := if g.1 * f.2 < f.1 * g.2 then g else f
/-- An ok fraction. -/
def OkF (f : Int × Int) : Prop := okB f.1 f.2 = true
/-- Not more. -/
def LeF (f g : Int × Int) : Prop := f.1 * g.2 ≤ g.1 * f.2
theorem LeF.refl (f : Int × Int) : LeF f f := Int.le_refl _
theorem OkF.pos {f : Int × Int} (h : OkF f) : 0 ≤ f.1 ∧ 0 < f.2 := by have := (okB_iff _ _).1 h; omega
theorem LeF.trans {f g h : Int × Int} (hf : OkF f) (hg : OkF g) (hh : OkF h) (h1 : LeF f g) (h2 : LeF g h) : LeF f h := by
  have p1 := hf.pos; have p2 := hg.pos; have p3 := hh.pos
  unfold LeF at *
  refine Int.le_of_mul_le_mul_left (a := g.2) ?_ p2.2
  have a1 := Int.mul_le_mul_of_nonneg_right h1 (show 0 ≤ h.2 by omega)
  have a2 := Int.mul_le_mul_of_nonneg_right h2 (show 0 ≤ f.2 by omega)
  grind
theorem LeF.antisymm {f g : Int × Int} (hf : OkF f) (hg : OkF g) (h1 : LeF f g) (h2 : LeF g f) : f = g := by
  unfold LeF at *
  have := ok_same hf hg (by omega)
  exact Prod.ext this.1 this.2
theorem mn_ok {f g : Int × Int} (hf : OkF f) (hg : OkF g) : OkF (mn f g) := by unfold mn; split <;> assumption
theorem mn_le1 (f g : Int × Int) : LeF (mn f g) f := by
  unfold mn LeF; split <;> omega
theorem mn_le2 (f g : Int × Int) : LeF (mn f g) g := by
  unfold mn LeF; split <;> omega
theorem mn_mem (f g : Int × Int) : mn f g = f ∨ mn f g = g := by
  unfold mn; split
  · exact .inr rfl
  · exact .inl rfl
/-- m is the least of four. -/
def Least (m a b c d : Int × Int) : Prop := (m = a ∨ m = b ∨ m = c ∨ m = d) ∧ LeF m a ∧ LeF m b ∧ LeF m c ∧ LeF m d
theorem Least.ok {m a b c d : Int × Int} (h : Least m a b c d) (ha : OkF a) (hb : OkF b) (hc : OkF c) (hd : OkF d) : OkF m := by
  rcases h.1 with e | e | e | e <;> rw [e] <;> assumption
theorem Least.le_of {m m' a b c d : Int × Int} (h : Least m a b c d) (h' : m' = a ∨ m' = b ∨ m' = c ∨ m' = d) : LeF m m' := by
  rcases h' with e | e | e | e <;> rw [e]
  · exact h.2.1
  · exact h.2.2.1
  · exact h.2.2.2.1
  · exact h.2.2.2.2
theorem Least.unique {m m' a b c d : Int × Int} (ha : OkF a) (hb : OkF b) (hc : OkF c) (hd : OkF d) (h : Least m a b c d) (h' : Least m' a b c d) : m = m' :=
  LeF.antisymm (h.ok ha hb hc hd) (h'.ok ha hb hc hd) (h.le_of h'.1) (h'.le_of h.1)
def mnA (a b c d : Int × Int) : Int × Int := mn (mn (mn a b) c) d
def mnB (a b c d : Int × Int) : Int × Int := mn (mn a b) (mn c d)
theorem mnA_least {a b c d : Int × Int} (ha : OkF a) (hb : OkF b) (hc : OkF c) (hd : OkF d) : Least (mnA a b c d) a b c d := by
  unfold mnA
  have o1 := mn_ok ha hb
  have o2 := mn_ok o1 hc
  have o3 := mn_ok o2 hd
  have l1 := mn_le1 (mn (mn a b) c) d
  have l2 := l1.trans o3 o2 o1 (mn_le1 _ _)
  refine ⟨?_, l2.trans o3 o1 ha (mn_le1 _ _), l2.trans o3 o1 hb (mn_le2 _ _), l1.trans o3 o2 hc (mn_le2 _ _), mn_le2 _ _⟩
  rcases mn_mem (mn (mn a b) c) d with e | e <;> rw [e]
  · rcases mn_mem (mn a b) c with e | e <;> rw [e]
    · rcases mn_mem a b with e | e <;> rw [e]
      · exact .inl rfl
      · exact .inr (.inl rfl)
    · exact .inr (.inr (.inl rfl))
  · exact .inr (.inr (.inr rfl))
theorem mnB_least {a b c d : Int × Int} (ha : OkF a) (hb : OkF b) (hc : OkF c) (hd : OkF d) : Least (mnB a b c d) a b c d := by
  unfold mnB
  have o1 := mn_ok ha hb
  have o2 := mn_ok hc hd
  have o3 := mn_ok o1 o2
  have l1 := mn_le1 (mn a b) (mn c d)
  have l2 := mn_le2 (mn a b) (mn c d)
  refine ⟨?_, l1.trans o3 o1 ha (mn_le1 _ _), l1.trans o3 o1 hb (mn_le2 _ _), l2.trans o3 o2 hc (mn_le1 _ _), l2.trans o3 o2 hd (mn_le2 _ _)⟩
  rcases mn_mem (mn a b) (mn c d) with e | e <;> rw [e]
  · rcases mn_mem a b with e | e <;> rw [e]
    · exact .inl rfl
    · exact .inr (.inl rfl)
  · rcases mn_mem c d with e | e <;> rw [e]
    · exact .inr (.inr (.inl rfl))
    · exact .inr (.inr (.inr rfl))
theorem mnA_mnB {a b c d : Int × Int} (ha : OkF a) (hb : OkF b) (hc : OkF c) (hd : OkF d) : mnB a b c d = mnA a b c d :=
  Least.unique ha hb hc hd (mnB_least ha hb hc hd) (mnA_least ha hb hc hd)
theorem mnA_turn {a b c d : Int × Int} (ha : OkF a) (hb : OkF b) (hc : OkF c) (hd : OkF d) : mnA c d a b = mnA a b c d := by
  have h := mnA_least hc hd ha hb
  refine Least.unique ha hb hc hd ⟨?_, h.2.2.2.1, h.2.2.2.2, h.2.1, h.2.2.1⟩ (mnA_least ha hb hc hd)
  rcases h.1 with e | e | e | e
  · exact .inr (.inr (.inl e))
  · exact .inr (.inr (.inr e))
  · exact .inl e
  · exact .inr (.inl e)
/-- How far two segments are apart, squared. -/
def apart (ax ay bx b_y cx cy ex ey : Int) : Int × Int :=
  if meetC ax ay bx b_y cx cy ex ey then (0, 1) else mnA (far ax ay bx b_y cx cy) (far ax ay bx b_y ex ey) (far cx cy ex ey ax ay) (far cx cy ex ey bx b_y)
theorem four_ok {ax ay bx b_y cx cy ex ey : Int} (hs : sgB ax ay bx b_y = true) (ht : sgB cx cy ex ey = true) : OkF (far ax ay bx b_y cx cy) ∧ OkF (far ax ay bx b_y ex ey) ∧ OkF (far cx cy ex ey ax ay) ∧ OkF (far cx cy ex ey bx b_y) :=
  ⟨far_ok hs (sg_parts ht).1, far_ok hs (sg_parts ht).2.1, far_ok ht (sg_parts hs).1, far_ok ht (sg_parts hs).2.1⟩
theorem apart_yes {ax ay bx b_y cx cy ex ey : Int} (h : meetC ax ay bx b_y cx cy ex ey = true) : apart ax ay bx b_y cx cy ex ey = (0, 1) := by unfold apart; rw [if_pos h]
theorem apart_least {ax ay bx b_y cx cy ex ey : Int} (hs : sgB ax ay bx b_y = true) (ht : sgB cx cy ex ey = true) (h : meetC ax ay bx b_y cx cy ex ey = false) : Least (apart ax ay bx b_y cx cy ex ey) (far ax ay bx b_y cx cy) (far ax ay bx b_y ex ey) (far cx cy ex ey ax ay) (far cx cy ex ey bx b_y) := by
  obtain ⟨o1, o2, o3, o4⟩ := four_ok hs ht
  unfold apart; rw [h]; exact mnA_least o1 o2 o3 o4
theorem apart_ok {ax ay bx b_y cx cy ex ey : Int} (hs : sgB ax ay bx b_y = true) (ht : sgB cx cy ex ey = true) : okB (apart ax ay bx b_y cx cy ex ey).1 (apart ax ay bx b_y cx cy ex ey).2 = true := by
  obtain ⟨o1, o2, o3, o4⟩ := four_ok hs ht
  cases h : meetC ax ay bx b_y cx cy ex ey
  · exact (apart_least hs ht h).ok o1 o2 o3 o4
  · rw [apart_yes h]; exact okB_one 0 (by decide) (by decide)
theorem apart_comm {ax ay bx b_y cx cy ex ey : Int} (hs : sgB ax ay bx b_y = true) (ht : sgB cx cy ex ey = true) : apart cx cy ex ey ax ay bx b_y = apart ax ay bx b_y cx cy ex ey := by
  obtain ⟨o1, o2, o3, o4⟩ := four_ok hs ht
  unfold apart; rw [meet_comm ax ay]
  split
  · rfl
  · exact mnA_turn o1 o2 o3 o4
theorem apart_zero {ax ay bx b_y cx cy ex ey : Int} (hs : sgB ax ay bx b_y = true) (ht : sgB cx cy ex ey = true) : (apart ax ay bx b_y cx cy ex ey = (0, 1)) ↔ meetC ax ay bx b_y cx cy ex ey = true := by
  obtain ⟨o1, o2, o3, o4⟩ := four_ok hs ht
  constructor
  · intro h
    cases hm : meetC ax ay bx b_y cx cy ex ey
    · have := (apart_least hs ht hm).1
      rw [h] at this
      have z : ∀ {f : Int × Int}, (0, 1) = f → f.1 = 0 := fun e => by rw [← e]
      unfold meetC endB at hm
      rcases this with e | e | e | e
      · rw [(far_zero hs (sg_parts ht).1).1 (z e)] at hm; simp at hm
      · rw [(far_zero hs (sg_parts ht).2.1).1 (z e)] at hm; simp at hm
      · rw [(far_zero ht (sg_parts hs).1).1 (z e)] at hm; simp at hm
      · rw [(far_zero ht (sg_parts hs).2.1).1 (z e)] at hm; simp at hm
    · rfl
  · exact apart_yes
theorem apart_mir (ax ay bx b_y cx cy ex ey : Int) : apart (9 - ax) ay (9 - bx) b_y (9 - cx) cy (9 - ex) ey = apart ax ay bx b_y cx cy ex ey := by
  unfold apart; rw [meet_mir, far_mir, far_mir, far_mir, far_mir]
theorem apart_swap (ax ay bx b_y cx cy ex ey : Int) : apart ay ax b_y bx cy cx ey ex = apart ax ay bx b_y cx cy ex ey := by
  unfold apart; rw [meet_swap ax ay, far_swap ax ay, far_swap ax ay, far_swap cx cy, far_swap cx cy]
end Go.Proofs.YtfdnadiliedikaaDoor
