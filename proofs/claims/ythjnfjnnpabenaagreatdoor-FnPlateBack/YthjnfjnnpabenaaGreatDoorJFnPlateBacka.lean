/-
  OUR OWN TEXT. The law FnPlateBack, for every input: the call returns true, and each argument reads as it did. Texts of ours, joined, so that the claim keeps to its number of files. Conditions: none but the row's own.
-/
import Derived.Test.YthjnfjnnpabenaaGreatDoorLoopX
import Derived.Test.YthjnfjnnpabenaaGreatDoorGeoParts
import Derived.Test.YthjnfjnnpabenaaGreatDoorRdText
import Derived.Test.YthjnfjnnpabenaaGreatDoorSOk
import Derived.Test.YthjnfjnnpabenaaGreatDoorFree
import Derived.Test.YthjnfjnnpabenaaGreatDoorLoopS
import Derived.Deep.RegionHeld3
import Derived.Test.YthjnfjnnpabenaaGreatDoorEdgeS
import Derived.Test.YthjnfjnnpabenaaGreatDoorOk
import Derived.LoopN
import Derived.Test.YthjnfjnnpabenaaGreatDoorToPts
import Derived.Deep.Slices
namespace Go.Proofs.YthjnfjnnpabenaaGreatDoor
theorem at_tail (c : P2) (m : List P2) (i : Nat) : ptAt (c :: m) (i + 1) = ptAt m i := by simp [ptAt]
theorem at_head (c : P2) (m : List P2) : ptAt (c :: m) 0 = c := by simp [ptAt]
theorem nxt_tail (c : P2) (m : List P2) {i : Nat} (h : i < m.length) : nxt (c :: m) i = i + 1 := by
  unfold nxt; rw [List.length_cons]; exact Nat.mod_eq_of_lt (by omega)
theorem nxt_end (c : P2) (m : List P2) : nxt (c :: m) m.length = 0 := by unfold nxt; rw [List.length_cons, Nat.mod_self]
theorem nxt_in {m : List P2} {i : Nat} (h : i + 1 < m.length) : nxt m i = i + 1 := Nat.mod_eq_of_lt h
theorem nxt_out {m : List P2} {i : Nat} (h : i + 1 = m.length) : nxt m i = 0 := by unfold nxt; rw [h, Nat.mod_self]
/-- In line, and neither goes back: between. -/
theorem between {a c b : P2} (hac : a ≠ c) (hcb : c ≠ b) (h0 : crs a.1 a.2 c.1 c.2 b.1 b.2 = 0) (h1 : hasP a c b = false) (h2 : hasP c b a = false) : hasP a b c = true ∧ a ≠ b := by
  have hne : a ≠ b := fun e => by subst e; rw [hasP_first] at h1; cases h1
  have d1 : ¬ (a.1 = c.1 ∧ a.2 = c.2) := fun ⟨e1, e2⟩ => hac (Prod.ext e1 e2)
  have d2 : ¬ (c.1 = b.1 ∧ c.2 = b.2) := fun ⟨e1, e2⟩ => hcb (Prod.ext e1 e2)
  refine ⟨?_, hne⟩
  unfold hasP at *
  rw [hasC_iff]
  have e1 : crs a.1 a.2 b.1 b.2 c.1 c.2 = 0 := by unfold crs at *; grind
  have e2 : crs c.1 c.2 b.1 b.2 a.1 a.2 = 0 := by unfold crs at *; grind
  refine ⟨e1, ?_⟩
  have n1 : ¬ dt b.1 b.2 a.1 a.2 c.1 c.2 ≤ 0 := fun h => by
    have : hasC a.1 a.2 c.1 c.2 b.1 b.2 = true := (hasC_iff _ _ _ _ _ _).2 ⟨h0, h⟩
    rw [this] at h1; cases h1
  have n2 : ¬ dt a.1 a.2 c.1 c.2 b.1 b.2 ≤ 0 := fun h => by
    have : hasC c.1 c.2 b.1 b.2 a.1 a.2 = true := (hasC_iff _ _ _ _ _ _).2 ⟨e2, h⟩
    rw [this] at h2; cases h2
  have p1 := dt_self_pos d1
  have p2 := dt_self_pos d2
  -- (ca·cb)(ab²) = .. : by Lagrange in line
  have k : dt c.1 c.2 a.1 a.2 b.1 b.2 * dt c.1 c.2 a.1 a.2 b.1 b.2 = dt a.1 a.2 c.1 c.2 c.1 c.2 * dt c.1 c.2 b.1 b.2 b.1 b.2 := by
    unfold dt crs at *; grind
  have s1 : dt a.1 a.2 c.1 c.2 b.1 b.2 = dt a.1 a.2 c.1 c.2 c.1 c.2 - dt c.1 c.2 a.1 a.2 b.1 b.2 := by unfold dt; grind
  have s2 : dt b.1 b.2 a.1 a.2 c.1 c.2 = dt c.1 c.2 b.1 b.2 b.1 b.2 - dt c.1 c.2 a.1 a.2 b.1 b.2 := by unfold dt; grind
  generalize dt c.1 c.2 a.1 a.2 b.1 b.2 = x at *
  generalize dt a.1 a.2 c.1 c.2 c.1 c.2 = y at *
  generalize dt c.1 c.2 b.1 b.2 b.1 b.2 = z at *
  rcases Int.lt_or_le 0 x with h | h
  · exfalso
    have q1 : x < y := by omega
    have q2 : x < z := by omega
    have : x * x < y * z := by
      have a1 : x * x < y * x := Int.mul_lt_mul_of_pos_right q1 h
      have a2 : y * x < y * z := Int.mul_lt_mul_of_pos_left q2 (by omega)
      omega
    omega
  · exact h
theorem sgP_ne {a b : P2} (h : sgP a b = true) : a ≠ b := fun e => by subst e; unfold sgP at h; rw [sgB_self] at h; cases h
theorem sgP_mk {a b : P2} (ha : ptB a.1 a.2 = true) (hb : ptB b.1 b.2 = true) (h : a ≠ b) : sgP a b = true := by
  unfold sgP; rw [sgB_iff]; rw [ptB_iff] at ha hb
  exact ⟨ha, hb, fun ⟨e1, e2⟩ => h (Prod.ext e1 e2)⟩
theorem d_ne {a b : P2} (h : a ≠ b) : ¬ (a.1 = b.1 ∧ a.2 = b.2) := fun ⟨e1, e2⟩ => h (Prod.ext e1 e2)
/-- Left out at the head, where nothing turns. -/
theorem OkL.less {c : P2} {m : List P2} (h : OkL (c :: m)) (hm : 3 ≤ m.length)
    (h0 : crs (ptAt m (m.length - 1)).1 (ptAt m (m.length - 1)).2 c.1 c.2 (ptAt m 0).1 (ptAt m 0).2 = 0) : OkL m := by
  have hl : (c :: m).length = m.length + 1 := by simp
  obtain ⟨a, ha⟩ : ∃ a, ptAt m (m.length - 1) = a := ⟨_, rfl⟩
  obtain ⟨b, hb⟩ : ∃ b, ptAt m 0 = b := ⟨_, rfl⟩
  rw [ha, hb] at h0
  -- edges of c :: m
  have E0 : sgP c b = true := by have := h.seg 0 (by omega); unfold sgE at this; rwa [nxt_tail c m (by omega), at_head, at_tail, hb] at this
  have EN : sgP a c = true := by
    have := h.seg m.length (by omega); unfold sgE at this
    rw [nxt_end, at_head] at this
    have e : ptAt (c :: m) m.length = a := by rw [← ha, ← at_tail c m]; congr 1; omega
    rwa [e] at this
  have EM : ∀ i, i + 1 < m.length → sgP (ptAt m i) (ptAt m (i + 1)) = true := fun i hi => by
    have := h.seg (i + 1) (by omega); unfold sgE at this
    rwa [nxt_tail c m hi, at_tail, at_tail] at this
  have iN : ptAt (c :: m) m.length = a := by rw [← ha, ← at_tail c m]; congr 1; omega
  have BN : hasP a c b = false ∧ hasP c b a = false := by
    have := h.back m.length (by omega); unfold backE at this
    rw [nxt_end, nxt_tail c m (by omega), at_head, at_tail, iN, hb] at this
    simpa [Bool.or_eq_false_iff] using this
  obtain ⟨hab, nab⟩ := between (sgP_ne EN) (sgP_ne E0) h0 BN.1 BN.2
  have split : ∀ p, hasP a b p = true → hasP a c p = true ∨ hasP c b p = true := fun p hp => has_part (d_ne nab) hab hp
  have parts : ∀ p q, meetP a b p q = true → meetP a c p q = true ∨ meetP c b p q = true := fun p q hp => by
    have := meet_parts (d_ne nab) hab (fun ⟨e1, e2⟩ => sgP_ne EN (Prod.ext e1.symm e2.symm)) (fun ⟨e1, e2⟩ => sgP_ne E0 (Prod.ext e1 e2)) hp
    exact Bool.or_eq_true_iff.1 this
  have A0 : ∀ j, 1 ≤ j → j + 2 ≤ m.length → meetP c b (ptAt m j) (ptAt m (j + 1)) = false := fun j h1 h2 => by
    have := h.apart 0 (j + 1) (by omega) (by omega) (by omega) (by rw [nxt_tail c m (by omega)]; omega) (by rw [nxt_tail c m (by omega)]; omega)
    unfold meetE at this
    rwa [nxt_tail c m (by omega), nxt_tail c m (by omega), at_head, at_tail, at_tail, at_tail, hb] at this
  have AN : ∀ j, j + 3 ≤ m.length → meetP a c (ptAt m j) (ptAt m (j + 1)) = false := fun j h2 => by
    have := h.apart m.length (j + 1) (by omega) (by omega) (by omega) (by rw [nxt_tail c m (by omega)]; omega) (by rw [nxt_end]; omega)
    unfold meetE at this
    rwa [nxt_end, nxt_tail c m (by omega), at_head, at_tail, at_tail, iN] at this
  have B0 : hasP c b (ptAt m 1) = false ∧ hasP b (ptAt m 1) c = false := by
    have := h.back 0 (by omega); unfold backE at this
    rw [nxt_tail c m (by omega), nxt_tail c m (by omega), at_head, at_tail, at_tail, hb] at this
    simpa [Bool.or_eq_false_iff] using this
  have iM : m.length - 2 + 1 = m.length - 1 := by omega
  have BM : hasP (ptAt m (m.length - 2)) a c = false ∧ hasP a c (ptAt m (m.length - 2)) = false := by
    have := h.back (m.length - 1) (by omega); unfold backE at this
    have e1 : nxt (c :: m) (m.length - 1) = m.length := by rw [nxt_tail c m (by omega)]; omega
    have e2 : ptAt (c :: m) (m.length - 1) = ptAt m (m.length - 2) := by rw [← at_tail c m]; congr 1; omega
    rw [e1, nxt_end, at_head, iN, e2] at this
    simpa [Bool.or_eq_false_iff] using this
  have la : nxt m (m.length - 1) = 0 := nxt_out (by omega)
  refine ⟨hm, by have := h.hi; omega, fun i hi => ?_, fun i hi => ?_, ?_⟩
  · unfold sgE
    rcases Nat.lt_or_ge (i + 1) m.length with h1 | h1
    · rw [nxt_in h1]; exact EM i h1
    · obtain rfl : i = m.length - 1 := by omega
      rw [la, ha, hb]
      exact sgP_mk (sgP_pt EN).1 (sgP_pt E0).2 nab
  · unfold backE
    rcases Nat.lt_or_ge (i + 2) m.length with h1 | h1
    · have := h.back (i + 1) (by omega); unfold backE at this
      rw [nxt_tail c m (by omega), nxt_tail c m (by omega), at_tail, at_tail, at_tail] at this
      rw [nxt_in (by omega), nxt_in (by omega)]; exact this
    · rcases Nat.lt_or_ge (i + 1) m.length with h2 | h2
      · obtain rfl : i = m.length - 2 := by omega
        have e1 : nxt m (m.length - 2) = m.length - 1 := by rw [nxt_in (by omega)]; omega
        rw [e1, la, ha, hb, Bool.or_eq_false_iff]
        have k := A0 (m.length - 2) (by omega) (by omega)
        rw [iM, ha] at k
        constructor
        · exact (meet_false k).2.2.2.1
        · cases e : hasP a b (ptAt m (m.length - 2))
          · rfl
          · rcases split _ e with e | e
            · rw [BM.2] at e; cases e
            · rw [(meet_false k).1] at e; cases e
      · obtain rfl : i = m.length - 1 := by omega
        rw [la, nxt_in (by omega), ha, hb, Bool.or_eq_false_iff]
        have k := AN 0 (by omega)
        rw [hb] at k
        constructor
        · cases e : hasP a b (ptAt m (0 + 1))
          · rfl
          · rcases split _ e with e | e
            · rw [(meet_false k).2.1] at e; cases e
            · rw [B0.1] at e; cases e
        · exact (meet_false k).2.2.1
  · have main : ∀ i j, i < m.length → j < m.length → i < j → nxt m j ≠ i → nxt m i ≠ j → meetE m i j = false := fun i j hi hj lt n2 n3 => by
      have e1 : nxt m i = i + 1 := nxt_in (by omega)
      rcases Nat.lt_or_ge (j + 1) m.length with h1 | h1
      · have := h.apart (i + 1) (j + 1) (by omega) (by omega) (by omega) (by rw [nxt_tail c m h1]; omega) (by rw [nxt_tail c m (by omega)]; omega)
        unfold meetE at this ⊢
        rw [nxt_tail c m (by omega), nxt_tail c m (by omega), at_tail, at_tail, at_tail, at_tail] at this
        rw [e1, nxt_in h1]; exact this
      · obtain rfl : j = m.length - 1 := by omega
        rw [la] at n2
        rw [e1] at n3
        unfold meetE; rw [e1, la, ha, hb]
        cases e : meetP (ptAt m i) (ptAt m (i + 1)) a b
        · rfl
        · rw [← meetP_comm] at e
          rcases parts _ _ e with e | e
          · rw [AN i (by omega)] at e; cases e
          · rw [A0 i (by omega) (by omega)] at e; cases e
    intro i j hi hj n1 n2 n3
    rcases Nat.lt_or_ge i j with lt | ge
    · exact main i j hi hj lt n2 n3
    · rw [← meetE_comm]; exact main j i hj hi (by omega) n3 n2
theorem sizeI_less (c : P2) (m : List P2) (hm : 1 ≤ m.length) :
    sizeI (c :: m) = sizeI m + crs (ptAt m (m.length - 1)).1 (ptAt m (m.length - 1)).2 c.1 c.2 (ptAt m 0).1 (ptAt m 0).2 := by
  obtain ⟨k, hk⟩ : ∃ k, m.length = k + 1 := ⟨m.length - 1, by omega⟩
  have e1 : sizeI (c :: m) = sumF (swE (c :: m)) (1 + k) + swE (c :: m) (1 + k) := by
    unfold sizeI; rw [List.length_cons, hk, Nat.add_comm 1 k]; rfl
  have e2 : sizeI m = sumF (swE m) k + swE m k := by unfold sizeI; rw [hk]; rfl
  rw [e1, e2, sumF_split]
  have e3 : sumF (swE (c :: m)) 1 = crs 0 0 c.1 c.2 (ptAt m 0).1 (ptAt m 0).2 := by
    simp only [sumF]; unfold swE; rw [nxt_tail c m (by omega), at_head, at_tail]; omega
  have e4 : sumF (fun i => swE (c :: m) (1 + i)) k = sumF (swE m) k := sumF_congr fun i hi => by
    unfold swE; rw [Nat.add_comm 1 i, nxt_tail c m (by omega), at_tail, at_tail, nxt_in (by omega)]
  have e5 : swE (c :: m) (1 + k) = crs 0 0 (ptAt m k).1 (ptAt m k).2 c.1 c.2 := by
    unfold swE
    have : nxt (c :: m) (1 + k) = 0 := by rw [Nat.add_comm 1 k, ← hk]; exact nxt_end c m
    rw [this, at_head, Nat.add_comm 1 k, at_tail]
  have e6 : swE m k = crs 0 0 (ptAt m k).1 (ptAt m k).2 (ptAt m 0).1 (ptAt m 0).2 := by unfold swE; rw [nxt_out hk.symm]
  rw [e3, e4, e5, e6]
  have := crs_split (ptAt m k).1 (ptAt m k).2 c.1 c.2 (ptAt m 0).1 (ptAt m 0).2
  have e7 : m.length - 1 = k := by omega
  rw [e7]; omega
/-- Without the point at a place. -/
def without (k : Nat) (l : List P2) : List P2 := l.take k ++ l.drop (k + 1)
theorem without_len {k : Nat} {l : List P2} (hk : k < l.length) : (without k l).length = l.length - 1 := by simp [without]; omega
theorem rot_cons {k : Nat} {l : List P2} (hk : k < l.length) : ∃ m, rot k l = ptAt l k :: m ∧ m.length = l.length - 1 ∧ rot k (without k l) = m := by
  refine ⟨l.drop (k + 1) ++ l.take k, ?_, by simp; omega, ?_⟩
  · unfold rot
    have e : l.drop k = ptAt l k :: l.drop (k + 1) := by rw [ptAt_lt hk]; exact List.drop_eq_getElem_cons hk
    rw [e]; rfl
  · have e : (l.take k).length = k := by simp; omega
    unfold rot without
    have d := List.drop_left (l₁ := l.take k) (l₂ := l.drop (k + 1))
    have t := List.take_left (l₁ := l.take k) (l₂ := l.drop (k + 1))
    rw [e] at d t
    rw [d, t]
theorem rot_back (k : Nat) (l : List P2) : rot (l.length - k) (rot k l) = l := by
  have e : (l.drop k).length = l.length - k := by simp
  unfold rot
  have d := List.drop_left (l₁ := l.drop k) (l₂ := l.take k)
  have t := List.take_left (l₁ := l.drop k) (l₂ := l.take k)
  rw [e] at d t
  rw [d, t, List.take_append_drop]
theorem OkL.of_rot {l : List P2} {k : Nat} (hk : k < l.length) (h : OkL (YthjnfjnnpabenaaGreatDoor.rot k l)) : OkL l := by
  rcases Nat.eq_zero_or_pos k with rfl | h0
  · simpa [YthjnfjnnpabenaaGreatDoor.rot] using h
  · have := h.rot (k := l.length - k) (by rw [rot_len (by omega)]; omega)
    rwa [rot_back] at this
theorem rot_last {l : List P2} {k : Nat} (hk : k < l.length) {m : List P2} (h : rot k l = ptAt l k :: m) (hm : m.length = l.length - 1) (h2 : 2 ≤ l.length) :
    ptAt m (m.length - 1) = ptAt l ((k + l.length - 1) % l.length) ∧ ptAt m 0 = ptAt l ((k + 1) % l.length) := by
  constructor
  · have := rot_at (l := l) hk (i := l.length - 1) (by omega)
    rw [h] at this
    have e : l.length - 1 = (m.length - 1) + 1 := by omega
    rw [e, at_tail] at this
    rw [this]; congr 2; omega
  · have := rot_at (l := l) hk (i := 1) (by omega)
    rw [h, at_tail] at this
    rw [this, Nat.add_comm 1 k]
/-- LEFT OUT WHERE NOTHING TURNS. -/
theorem less_ok {l : List P2} (h : OkL l) (h4 : 4 ≤ l.length) {k : Nat} (hk : k < l.length)
    (h0 : crs (ptAt l ((k + l.length - 1) % l.length)).1 (ptAt l ((k + l.length - 1) % l.length)).2 (ptAt l k).1 (ptAt l k).2 (ptAt l ((k + 1) % l.length)).1 (ptAt l ((k + 1) % l.length)).2 = 0) : OkL (without k l) := by
  obtain ⟨m, e1, e2, e3⟩ := rot_cons hk
  obtain ⟨e4, e5⟩ := rot_last hk e1 e2 (by omega)
  have hr := h.rot hk
  rw [e1] at hr
  have hm : OkL m := OkL.less hr (by omega) (by rw [e4, e5]; exact h0)
  rcases Nat.lt_or_ge k (without k l).length with hk' | hk'
  · exact OkL.of_rot hk' (by rw [e3]; exact hm)
  · have hw := without_len hk
    have : rot k (without k l) = without k l := by unfold rot; rw [List.drop_eq_nil_of_le hk', List.take_of_length_le hk']; rfl
    rw [← this, e3]; exact hm
theorem less_size {l : List P2} (h4 : 2 ≤ l.length) {k : Nat} (hk : k < l.length) :
    sizeI l = sizeI (without k l) + crs (ptAt l ((k + l.length - 1) % l.length)).1 (ptAt l ((k + l.length - 1) % l.length)).2 (ptAt l k).1 (ptAt l k).2 (ptAt l ((k + 1) % l.length)).1 (ptAt l ((k + 1) % l.length)).2 := by
  obtain ⟨m, e1, e2, e3⟩ := rot_cons hk
  obtain ⟨e4, e5⟩ := rot_last hk e1 e2 (by omega)
  have s1 := sizeI_rot hk
  have s2 := sizeI_less (ptAt l k) m (by omega)
  rw [e4, e5, ← e1, s1] at s2
  rw [s2]
  have : sizeI (without k l) = sizeI m := by
    rcases Nat.lt_or_ge k (without k l).length with hk' | hk'
    · rw [← e3, sizeI_rot hk']
    · have : rot k (without k l) = without k l := by unfold rot; rw [List.drop_eq_nil_of_le hk', List.take_of_length_le hk']; rfl
      rw [← this, e3]
  rw [this]
end Go.Proofs.YthjnfjnnpabenaaGreatDoor
namespace Go.Proofs.YthjnfjnnpabenaaGreatDoor

/-- No edges of two loops meet. -/
def apL (a b : List P2) : Bool := (List.range a.length).all fun i => (List.range b.length).all fun k => !meetP (ptAt a i) (ptAt a (nxt a i)) (ptAt b k) (ptAt b (nxt b k))
theorem apL_iff (a b : List P2) : apL a b = true ↔ ∀ i, i < a.length → ∀ k, k < b.length → meetP (ptAt a i) (ptAt a (nxt a i)) (ptAt b k) (ptAt b (nxt b k)) = false := by
  unfold apL
  simp only [List.all_eq_true, List.mem_range, Bool.not_eq_true']
theorem apL_comm (a b : List P2) : apL b a = apL a b := by
  rw [Bool.eq_iff_iff, apL_iff, apL_iff]
  constructor
  · intro h i hi k hk; rw [meetP_comm]; exact h k hk i hi
  · intro h i hi k hk; rw [meetP_comm]; exact h k hk i hi
theorem apL_side {f : P2 → P2} (hf : Side f) (a b : List P2) : apL (a.map f) (b.map f) = apL a b := by
  rw [Bool.eq_iff_iff, apL_iff, apL_iff]
  simp only [List.length_map, map_nxt]
  constructor
  · intro h i hi k hk; have := h i hi k hk; rwa [map_at hi, map_at hk, map_at (nxt_lt (by omega)), map_at (nxt_lt (by omega)), hf.meet] at this
  · intro h i hi k hk; rw [map_at hi, map_at hk, map_at (nxt_lt (by omega)), map_at (nxt_lt (by omega)), hf.meet]; exact h i hi k hk
theorem apL_rev1 {a b : List P2} (h : apL a b = true) : apL a.reverse b = true := by
  rw [apL_iff] at h ⊢
  intro i hi k hk
  rw [List.length_reverse] at hi
  rw [rev_first hi, rev_last hi, meetP_back1]
  exact h _ (rvE_lt hi) k hk
theorem apL_rev {a b : List P2} (h : apL a b = true) : apL a.reverse b.reverse = true := by
  have h1 := apL_rev1 h
  rw [apL_comm] at h1 ⊢
  exact apL_rev1 h1
/-- Corners of a loop that does not meet another one are all on one side of it. -/
theorem apL_same {o h : List P2} (hm : apL o h = true) : ∀ i, i < h.length → inI o (ptAt h i) = inI o (ptAt h 0) ∧ onL o (ptAt h i) = false := by
  rw [apL_iff] at hm
  have step : ∀ i, i < h.length → inI o (ptAt h i) = inI o (ptAt h (nxt h i)) ∧ onL o (ptAt h i) = false ∧ onL o (ptAt h (nxt h i)) = false := fun i hi => inI_way (fun j hj => hm j hj i hi)
  intro i
  induction i with
  | zero => intro hi; exact ⟨rfl, (step 0 hi).2.1⟩
  | succ n ih =>
    intro hi
    have h1 := step n (by omega)
    rw [nxt_in hi] at h1
    exact ⟨h1.1.symm.trans (ih (by omega)).1, h1.2.2⟩
/-- An edge to the left of a point, or under it, does not pass right of it. -/
theorem pass_right' {a b p : P2} (h1 : a.1 ≤ p.1) (h2 : b.1 ≤ p.1) : passP a b p = false := by
  have key : ∀ a b : P2, a.1 ≤ p.1 → b.1 ≤ p.1 → (decide (a.2 ≤ p.2) && decide (p.2 < b.2) && decide (0 < crs a.1 a.2 b.1 b.2 p.1 p.2)) = false := by
    intro a b h1 h2
    rw [Bool.eq_false_iff]
    intro h
    simp only [Bool.and_eq_true, decide_eq_true_eq] at h
    obtain ⟨⟨ha, hb⟩, hc⟩ := h
    have e : crs a.1 a.2 b.1 b.2 p.1 p.2 = - ((p.1 - b.1) * (p.2 - a.2) + (p.1 - a.1) * (b.2 - p.2)) := by unfold crs; grind
    have t1 := Int.mul_nonneg (show 0 ≤ p.1 - b.1 by omega) (show 0 ≤ p.2 - a.2 by omega)
    have t2 := Int.mul_nonneg (show 0 ≤ p.1 - a.1 by omega) (show 0 ≤ b.2 - p.2 by omega)
    omega
  unfold passP
  split
  · exact key b a h2 h1
  · exact key a b h1 h2
theorem inI_right {l : List P2} {p : P2} (h0 : onL l p = false) (h : ∀ i, i < l.length → (ptAt l i).1 ≤ p.1) : inI l p = -1 := by
  refine inI_none h0 ?_
  unfold cntP
  rw [sumE_zero]
  · rfl
  · intro i hi
    rw [pass_right' (h i hi) (h _ (nxt_lt (by omega)))]; rfl
/-- The rightmost corner. -/
theorem rightmost {l : List P2} (h : 0 < l.length) : ∃ i, i < l.length ∧ ∀ k, k < l.length → (ptAt l k).1 ≤ (ptAt l i).1 := by
  have : ∀ n, 0 < n → ∃ i, i < n ∧ ∀ k, k < n → (ptAt l k).1 ≤ (ptAt l i).1 := by
    intro n
    induction n with
    | zero => intro h; omega
    | succ n ih =>
      intro _
      rcases Nat.eq_zero_or_pos n with rfl | hn
      · exact ⟨0, by omega, fun k hk => by
          have e : k = 0 := by omega
          subst e; exact Int.le_refl _⟩
      · obtain ⟨i, hi, hm⟩ := ih hn
        by_cases hle : (ptAt l n).1 ≤ (ptAt l i).1
        · refine ⟨i, by omega, fun k hk => ?_⟩
          by_cases e : k = n
          · subst e; exact hle
          · exact hm k (by omega)
        · refine ⟨n, by omega, fun k hk => ?_⟩
          by_cases e : k = n
          · subst e; omega
          · have := hm k (by omega); omega
  exact this _ h
/-- Not each of two loops is in the other one. -/
theorem not_both {o h : List P2} (ho : 0 < o.length) (hh : 0 < h.length) (hm : apL o h = true) (h1 : inI o (ptAt h 0) = 1) : ∀ i, i < o.length → inI h (ptAt o i) = -1 := by
  have s1 := apL_same hm
  have s2 := apL_same (show apL h o = true by rw [apL_comm]; exact hm)
  obtain ⟨i, hi, him⟩ := rightmost ho
  obtain ⟨k, hk, hkm⟩ := rightmost hh
  have key : inI h (ptAt o i) = -1 := by
    by_cases hle : (ptAt h k).1 ≤ (ptAt o i).1
    · exact inI_right (s2 i hi).2 (fun j hj => by have := hkm j hj; omega)
    · have := inI_right (s1 k hk).2 (fun j hj => by have := him j hj; omega)
      rw [(s1 k hk).1, h1] at this
      omega
  intro j hj
  rw [(s2 j hj).1, ← (s2 i hi).1]; exact key

/-- The second loop is in the first one, without meeting it. -/
def arB (o h : List P2) : Bool := apL o h && decide (inI o (ptAt h 0) = 1)
/-- Two loops, beyond each other, that do not meet. -/
def beB (a b : List P2) : Bool := apL a b && decide (inI a (ptAt b 0) = -1) && decide (inI b (ptAt a 0) = -1)
/-- A plate is ok. -/
def plV (o : List P2) (hs : List (List P2)) : Bool :=
  match hs with
  | [] => okV o
  | [h] => okV o && okV h && arB o h
  | [h, k] => okV o && okV h && okV k && arB o h && arB o k && beB h k
  | _ => false
theorem arB_iff (o h : List P2) : arB o h = true ↔ apL o h = true ∧ inI o (ptAt h 0) = 1 := by unfold arB; simp
theorem beB_iff (a b : List P2) : beB a b = true ↔ apL a b = true ∧ inI a (ptAt b 0) = -1 ∧ inI b (ptAt a 0) = -1 := by unfold beB; simp [and_assoc]
theorem beB_comm (a b : List P2) : beB b a = beB a b := by
  rw [Bool.eq_iff_iff, beB_iff, beB_iff, apL_comm]
  constructor <;> exact fun ⟨x, y, z⟩ => ⟨x, z, y⟩
theorem okV_pos {l : List P2} (h : okV l = true) : 3 ≤ l.length ∧ l.length ≤ 8 := by have := (okV_iff l).1 h; exact ⟨this.1, this.2⟩

/-- What turns a plate into another one. -/
structure Turns (f : List P2 → List P2) : Prop where
  ok : ∀ l, okV l = true → okV (f l) = true
  ap : ∀ a b, apL a b = true → apL (f a) (f b) = true
  inn : ∀ a b, okV a = true → okV b = true → apL a b = true → inI (f a) (ptAt (f b) 0) = inI a (ptAt b 0)
theorem turns_mir : Turns (List.map mirP) := ⟨fun l h => (okV_iff _).2 (((okV_iff l).1 h).side mir_side), fun a b h => by rw [apL_side mir_side]; exact h, fun a b _ hb _ => by
  have := okV_pos hb
  rw [map_at (by omega)]; exact inI_mir a (ptAt b 0)⟩
theorem turns_swp : Turns (List.map swpP) := ⟨fun l h => (okV_iff _).2 (((okV_iff l).1 h).side swp_side), fun a b h => by rw [apL_side swp_side]; exact h, fun a b _ hb _ => by
  have := okV_pos hb
  rw [map_at (by omega)]; exact inI_swp a (ptAt b 0)⟩
theorem turns_rev : Turns List.reverse := ⟨fun l h => (okV_iff _).2 ((okV_iff l).1 h).rev, fun a b h => apL_rev h, fun a b _ hb hm => by
  have := okV_pos hb
  rw [inI_rev, rev_at (by omega)]
  exact (apL_same hm _ (by omega)).1⟩
theorem arB_turn {f : List P2 → List P2} (hf : Turns f) {a b : List P2} (ha : okV a = true) (hb : okV b = true) (h : arB a b = true) : arB (f a) (f b) = true := by
  rw [arB_iff] at h ⊢
  exact ⟨hf.ap _ _ h.1, by rw [hf.inn _ _ ha hb h.1]; exact h.2⟩
theorem beB_turn {f : List P2 → List P2} (hf : Turns f) {a b : List P2} (ha : okV a = true) (hb : okV b = true) (h : beB a b = true) : beB (f a) (f b) = true := by
  rw [beB_iff] at h ⊢
  exact ⟨hf.ap _ _ h.1, by rw [hf.inn _ _ ha hb h.1]; exact h.2.1, by rw [hf.inn _ _ hb ha (by rw [apL_comm]; exact h.1)]; exact h.2.2⟩
theorem plV_turn {f : List P2 → List P2} (hf : Turns f) {o : List P2} {hs : List (List P2)} (h : plV o hs = true) : plV (f o) (hs.map f) = true := by
  match hs, h with
  | [], h => exact hf.ok _ h
  | [a], h =>
    simp only [plV, Bool.and_eq_true, List.map_cons, List.map_nil] at h ⊢
    exact ⟨⟨hf.ok _ h.1.1, hf.ok _ h.1.2⟩, arB_turn hf h.1.1 h.1.2 h.2⟩
  | [a, b], h =>
    simp only [plV, Bool.and_eq_true, List.map_cons, List.map_nil] at h ⊢
    obtain ⟨⟨⟨⟨⟨h1, h2⟩, h3⟩, h4⟩, h5⟩, h6⟩ := h
    exact ⟨⟨⟨⟨⟨hf.ok _ h1, hf.ok _ h2⟩, hf.ok _ h3⟩, arB_turn hf h1 h2 h4⟩, arB_turn hf h1 h3 h5⟩, beB_turn hf h2 h3 h6⟩
  | _ :: _ :: _ :: _, h => simp [plV] at h
theorem plV_less {o : List P2} {hs : List (List P2)} (h : plV o hs = true) : plV o hs.dropLast = true := by
  match hs, h with
  | [], h => exact h
  | [a], h => simp only [plV, Bool.and_eq_true, List.dropLast] at h ⊢; exact h.1.1
  | [a, b], h =>
    simp only [plV, Bool.and_eq_true, List.dropLast] at h ⊢
    exact ⟨⟨h.1.1.1.1.1, h.1.1.1.1.2⟩, h.1.1.2⟩
  | _ :: _ :: _ :: _, h => simp [plV] at h
theorem plV_back {o : List P2} {hs : List (List P2)} (h : plV o hs = true) : plV o hs.reverse = true := by
  match hs, h with
  | [], h => exact h
  | [a], h => exact h
  | [a, b], h =>
    simp only [plV, Bool.and_eq_true, List.reverse_cons, List.reverse_nil, List.nil_append, List.cons_append] at h ⊢
    obtain ⟨⟨⟨⟨⟨h1, h2⟩, h3⟩, h4⟩, h5⟩, h6⟩ := h
    exact ⟨⟨⟨⟨⟨h1, h3⟩, h2⟩, h5⟩, h4⟩, by rw [beB_comm]; exact h6⟩
  | _ :: _ :: _ :: _, h => simp [plV] at h
theorem plV_len {o : List P2} {hs : List (List P2)} (h : plV o hs = true) : hs.length ≤ 2 := by
  match hs, h with
  | [], _ => simp
  | [a], _ => simp
  | [a, b], _ => simp
  | _ :: _ :: _ :: _, h => simp [plV] at h
/-- In order: outer loop, holes; what holds of them. -/
structure PlL (o : List P2) (hs : List (List P2)) : Prop where
  out : okV o = true
  len : hs.length ≤ 2
  ok : ∀ h ∈ hs, okV h = true
  ar : ∀ h ∈ hs, arB o h = true
  be : ∀ i k, i < k → k < hs.length → beB (hs[i]?.getD []) (hs[k]?.getD []) = true
theorem plV_iff (o : List P2) (hs : List (List P2)) : plV o hs = true ↔ PlL o hs := by
  match hs with
  | [] => exact ⟨fun h => ⟨h, by simp, by simp, by simp, fun i k _ hk => by simp at hk⟩, fun h => h.out⟩
  | [a] =>
    simp only [plV, Bool.and_eq_true]
    constructor
    · intro h
      exact ⟨h.1.1, by simp, fun x hx => by simp at hx; rw [hx]; exact h.1.2, fun x hx => by simp at hx; rw [hx]; exact h.2, fun i k _ hk => by simp at hk; omega⟩
    · intro h; exact ⟨⟨h.out, h.ok a (by simp)⟩, h.ar a (by simp)⟩
  | [a, b] =>
    simp only [plV, Bool.and_eq_true]
    constructor
    · rintro ⟨⟨⟨⟨⟨h1, h2⟩, h3⟩, h4⟩, h5⟩, h6⟩
      refine ⟨h1, by simp, ?_, ?_, ?_⟩
      · intro x hx; simp at hx; rcases hx with rfl | rfl <;> assumption
      · intro x hx; simp at hx; rcases hx with rfl | rfl <;> assumption
      · intro i k h hk
        simp at hk
        obtain rfl : i = 0 := by omega
        obtain rfl : k = 1 := by omega
        exact h6
    · intro h
      exact ⟨⟨⟨⟨⟨h.out, h.ok a (by simp)⟩, h.ok b (by simp)⟩, h.ar a (by simp)⟩, h.ar b (by simp)⟩, h.be 0 1 (by omega) (by simp)⟩
  | _ :: _ :: _ :: _ =>
    simp only [plV]
    exact ⟨fun h => (by cases h), fun h => (by have := h.len; simp at this)⟩
end Go.Proofs.YthjnfjnnpabenaaGreatDoor
namespace Go.Proofs.YthjnfjnnpabenaaGreatDoor
open Go.RowKit

/-- The points of lines, up to one that is none. -/
def rdP : List (List UInt8) → Option (List (List P2))
  | [] => some []
  | x :: xs => match wordsP (cutL 32 x) with
    | none => none
    | some l => (rdP xs).map (l :: ·)
/-- The points of lines ahead of an empty last one. -/
def linesP : List (List UInt8) → Option (List (List P2))
  | [] => none
  | [x] => if x = [] then some [] else none
  | x :: y :: r => match wordsP (cutL 32 x) with
    | none => none
    | some l => (linesP (y :: r)).map (l :: ·)
def lnP (z : List UInt8) : Option (List (List P2)) := linesP (cutL 10 z)
/-- The loops of a text's plate: the outer one, then the holes. -/
def readPl (z : List UInt8) : Option (List (List P2)) :=
  if z.length ≤ 120 then match lnP z with
    | some (o :: hs) => if plV o hs = true then some (o :: hs) else none
    | _ => none
  else none
theorem rdP_snoc (xs : List (List UInt8)) (x : List UInt8) : rdP (xs ++ [x]) = match rdP xs with
    | none => none
    | some ls => (wordsP (cutL 32 x)).map (fun l => ls ++ [l]) := by
  induction xs with
  | nil => cases h : wordsP (cutL 32 x) <;> simp [rdP, h]
  | cons y ys ih =>
    simp only [List.cons_append, rdP]
    cases h : wordsP (cutL 32 y) with
    | none => rfl
    | some p =>
      simp only [ih]
      cases rdP ys with
      | none => rfl
      | some l => cases wordsP (cutL 32 x) <;> rfl
theorem rdP_none {xs : List (List UInt8)} {k : Nat} (h : rdP (xs.take k) = none) : rdP xs = none := by
  induction xs generalizing k with
  | nil => simpa using h
  | cons y ys ih =>
    cases k with
    | zero => simp [rdP] at h
    | succ k =>
      simp only [List.take_succ_cons, rdP] at h ⊢
      cases hy : wordsP (cutL 32 y) with
      | none => rfl
      | some p =>
        rw [hy] at h
        simp only [Option.map_eq_none_iff] at h ⊢
        exact ih h
theorem rdP_len {xs : List (List UInt8)} {l : List (List P2)} (h : rdP xs = some l) : l.length = xs.length := by
  induction xs generalizing l with
  | nil => simp [rdP] at h; subst h; rfl
  | cons y ys ih =>
    simp only [rdP] at h
    cases hy : wordsP (cutL 32 y) with
    | none => rw [hy] at h; cases h
    | some p =>
      rw [hy] at h
      simp only [Option.map_eq_some_iff] at h
      obtain ⟨l', h1, rfl⟩ := h
      simp [ih h1]
/-- An empty last line: the lines ahead of it are read. -/
theorem linesP_nil (xs : List (List UInt8)) : linesP (xs ++ [[]]) = rdP xs := by
  induction xs with
  | nil => rfl
  | cons y ys ih =>
    cases ys with
    | nil => show linesP [y, []] = _; simp only [linesP, rdP]; rfl
    | cons z zs =>
      show linesP (y :: z :: (zs ++ [[]])) = _
      rw [linesP, rdP]
      have ih' : linesP (z :: (zs ++ [[]])) = rdP (z :: zs) := ih
      rw [ih']
/-- Another last line: nothing is read. -/
theorem linesP_no (xs : List (List UInt8)) {x : List UInt8} (h : x ≠ []) : linesP (xs ++ [x]) = none := by
  induction xs with
  | nil => show linesP [x] = none; simp [linesP, h]
  | cons y ys ih =>
    cases ys with
    | nil =>
      show linesP [y, x] = none
      simp only [linesP, if_neg h]
      cases wordsP (cutL 32 y) <;> rfl
    | cons z zs =>
      show linesP (y :: z :: (zs ++ [x])) = none
      have ih' : linesP (z :: (zs ++ [x])) = none := ih
      rw [linesP, ih']
      cases wordsP (cutL 32 y) <;> rfl
theorem lnP_nil : lnP [] = some [] := rfl
theorem lnP_free {x : List UInt8} (h : (10 : UInt8) ∉ x) (hx : x ≠ []) : lnP x = none := by
  unfold lnP
  rw [cut_free _ _ h]
  exact linesP_no [] hx
theorem lnP_word {x r : List UInt8} (h : (10 : UInt8) ∉ x) : lnP (x ++ 10 :: r) = match wordsP (cutL 32 x) with
    | none => none
    | some l => (lnP r).map (l :: ·) := by
  unfold lnP
  rw [cut_word _ _ _ h]
  obtain ⟨y, ys, e⟩ := List.exists_cons_of_ne_nil (cutL_ne 10 r)
  rw [e, linesP]
theorem lnP_spec (z : List UInt8) : ∃ xs x, cutL 10 z = xs ++ [x] ∧ lnP z = if x = [] then rdP xs else none := by
  have h := cutL_ne 10 z
  refine ⟨(cutL 10 z).dropLast, (cutL 10 z).getLast h, (List.dropLast_concat_getLast h).symm, ?_⟩
  have e : lnP z = linesP ((cutL 10 z).dropLast ++ [(cutL 10 z).getLast h]) := by rw [List.dropLast_concat_getLast]; rfl
  rw [e]
  by_cases hx : (cutL 10 z).getLast h = []
  · rw [if_pos hx, hx]; exact linesP_nil _
  · rw [if_neg hx]; exact linesP_no _ hx
theorem plV_all {o : List P2} {hs : List (List P2)} (h : plV o hs = true) : okV o = true ∧ hs.length ≤ 2 ∧ ∀ l ∈ hs, okV l = true := by
  match hs with
  | [] => exact ⟨h, Nat.zero_le _, fun l hl => by cases hl⟩
  | [a] =>
    simp only [plV, Bool.and_eq_true] at h
    exact ⟨h.1.1, Nat.le_succ 1, fun l hl => by obtain rfl := List.mem_singleton.1 hl; exact h.1.2⟩
  | [a, b] =>
    simp only [plV, Bool.and_eq_true] at h
    refine ⟨h.1.1.1.1.1, Nat.le_refl 2, fun l hl => ?_⟩
    rcases List.mem_cons.1 hl with rfl | hl
    · exact h.1.1.1.1.2
    · obtain rfl := List.mem_singleton.1 hl; exact h.1.1.1.2
  | a :: b :: c :: r => exact absurd (show false = true from h) Bool.false_ne_true
theorem words_readL {s : ByteArray} {l : List P2} (h : wordsP (cutL 32 s.data.toList) = some l) (hk : okV l = true) : readL s = some l := by
  obtain ⟨h1, h2⟩ := words_only h
  obtain ⟨h0, h8, hp⟩ := okV_pts8 hk
  have e := cut_join l _ h1
  have hs := txL_size h0 hp
  have hz : s.size = s.data.toList.length := by rw [Array.length_toList]; rfl
  exact readL_some (by rw [hz, e]; omega) h hk
theorem readL_words {s : ByteArray} {l : List P2} (h : readL s = some l) : wordsP (cutL 32 s.data.toList) = some l ∧ okV l = true := by
  unfold readL at h
  split at h
  · split at h
    · cases h
    · rename_i l' hl'
      split at h
      · rename_i hk
        obtain rfl := Option.some.inj h
        exact ⟨hl', hk⟩
      · cases h
  · cases h
/-- What has been read of a text of a plate, and what is left. -/
structure Rding (z : List UInt8) (ls : List (List P2)) (r : List UInt8) : Prop where
  out : lnP z = (lnP r).map (ls ++ ·)
  ok : ∀ l ∈ ls, okV l = true
theorem Rding.start (z : List UInt8) : Rding z [] z := ⟨by cases lnP z <;> rfl, by simp⟩
theorem Rding.step {z : List UInt8} {ls : List (List P2)} {x r : List UInt8} {l : List P2} (h : Rding z ls (x ++ 10 :: r)) (hx : (10 : UInt8) ∉ x) (hl : readL ⟨x.toArray⟩ = some l) : Rding z (ls ++ [l]) r := by
  obtain ⟨h1, h2⟩ := readL_words hl
  have h1' : wordsP (cutL 32 x) = some l := by simpa using h1
  refine ⟨?_, ?_⟩
  · rw [h.out, lnP_word hx, h1']
    cases lnP r <;> simp
  · intro q hq
    rcases List.mem_append.1 hq with hq | hq
    · exact h.ok q hq
    · obtain rfl := List.mem_singleton.1 hq; exact h2
/-- A line that is none: the text is no plate's. -/
theorem Rding.bad {z : List UInt8} {ls : List (List P2)} {x r : List UInt8} (h : Rding z ls (x ++ 10 :: r)) (hx : (10 : UInt8) ∉ x) (hl : readL ⟨x.toArray⟩ = none) : readPl z = none := by
  unfold readPl
  split
  · split
    · rename_i o hs he
      rw [if_neg]
      intro hv
      obtain ⟨v1, _, v2⟩ := plV_all hv
      rw [h.out, lnP_word hx] at he
      cases hw : wordsP (cutL 32 x) with
      | none => rw [hw] at he; cases he
      | some l =>
        rw [hw] at he
        simp only [Option.map_map, Option.map_eq_some_iff, Function.comp] at he
        obtain ⟨q, _, e⟩ := he
        have hmem : l ∈ o :: hs := by rw [← e]; simp
        have hk : okV l = true := by
          rcases List.mem_cons.1 hmem with rfl | hm
          · exact v1
          · exact v2 l hm
        have := words_readL (s := ⟨x.toArray⟩) (by simpa using hw) hk
        rw [this] at hl
        cases hl
    · rfl
  · rfl
/-- A rest without an end of its line: the text is no plate's. -/
theorem Rding.open' {z : List UInt8} {ls : List (List P2)} {x : List UInt8} (h : Rding z ls x) (hx : (10 : UInt8) ∉ x) (hn : x ≠ []) : readPl z = none := by
  unfold readPl
  rw [h.out, lnP_free hx hn]
  split <;> rfl
/-- All is read. -/
theorem Rding.done {z : List UInt8} {o : List P2} {hs : List (List P2)} (h : Rding z (o :: hs) []) : lnP z = some (o :: hs) := by
  rw [h.out, lnP_nil]; simp
theorem readPl_long {z : List UInt8} (h : ¬ z.length ≤ 120) : readPl z = none := by unfold readPl; rw [if_neg h]
theorem readPl_nil : readPl [] = none := by unfold readPl; rw [lnP_nil]; rfl
theorem readPl_of {z : List UInt8} {o : List P2} {hs : List (List P2)} (hz : z.length ≤ 120) (h : lnP z = some (o :: hs)) : readPl z = if plV o hs = true then some (o :: hs) else none := by
  unfold readPl; rw [if_pos hz, h]
end Go.Proofs.YthjnfjnnpabenaaGreatDoor
namespace Go.Proofs.YthjnfjnnpabenaaGreatDoor
open Go.RowKit Go.Sort

theorem okV_pt {pts : List P2} (h : okV pts = true) {i : Nat} (hi : i < pts.length) : ptB (ptAt pts i).1 (ptAt pts i).2 = true := (sgP_pt (((okV_iff pts).1 h).seg i hi)).1
theorem sCross_raw (a b c : P2) (ha : ptB a.1 a.2 = true) (hb : ptB b.1 b.2 = true) (hc : ptB c.1 c.2 = true) (w : World) :
    Calls Tryz.prog 64 #[.agg #[.int .i64 a.1, .int .i64 a.2], .agg #[.int .i64 b.1, .int .i64 b.2], .agg #[.int .i64 c.1, .int .i64 c.2]] w fun e w' => e = .returned (.int .i64 (crs a.1 a.2 b.1 b.2 c.1 c.2)) ∧ Below w.heap.size w w' := sCross_any _ _ _ _ _ _ w ha hb hc
theorem fan_bd {pts : List P2} (h : okV pts = true) (k : Nat) (hk : k < pts.length) : -(162 * k) ≤ fan pts k ∧ fan pts k ≤ 162 * k := by
  induction k with
  | zero => simp [fan]
  | succ k ih =>
    have i := ih (by omega)
    cases k with
    | zero => simp [fan]
    | succ k =>
      have e : fan pts (k + 1 + 1) = fan pts (k + 1) + triE pts (k + 1) := rfl
      have b := crs_bd (okV_pt h (i := 0) (by omega)) (okV_pt h (i := k + 1) (by omega)) (okV_pt h (i := k + 1 + 1) hk)
      have b' : -162 ≤ triE pts (k + 1) ∧ triE pts (k + 1) ≤ 162 := b
      rw [e]; omega
end Go.Proofs.YthjnfjnnpabenaaGreatDoor
namespace Go.Proofs.YthjnfjnnpabenaaGreatDoor
open Go.RowKit Go.Sort

theorem tn_pos (ax ay bx b_y cx cy : Int) : 0 < tn ax ay bx b_y cx cy ↔ 0 < crs ax ay bx b_y cx cy := by
  unfold tn cmpI; split
  · omega
  · split <;> omega
theorem turn_raw (a b c : P2) (ha : ptB a.1 a.2 = true) (hb : ptB b.1 b.2 = true) (hc : ptB c.1 c.2 = true) (w : World) :
    Calls Tryz.prog 107 #[.agg #[.int .i64 a.1, .int .i64 a.2], .agg #[.int .i64 b.1, .int .i64 b.2], .agg #[.int .i64 c.1, .int .i64 c.2]] w fun e w' => e = .returned (.int .i64 (tn a.1 a.2 b.1 b.2 c.1 c.2)) ∧ Below w.heap.size w w' := turn_ok _ _ _ _ _ _ w ha hb hc
set_option maxRecDepth 100000 in
set_option maxHeartbeats 4000000 in
theorem pass_ok (a b p : P2) (ha : ptB a.1 a.2 = true) (hb : ptB b.1 b.2 = true) (hp : ptB p.1 p.2 = true) (w : World) :
    Calls Tryz.prog 102 #[.agg #[.int .i64 a.1, .int .i64 a.2, .int .i64 b.1, .int .i64 b.2], .agg #[.int .i64 p.1, .int .i64 p.2]] w fun e w' => e = .returned (.bool (passP a b p)) ∧ Below w.heap.size w w' := by
  by_cases hgt : b.2 < a.2
  · have e1 : Hid (passP a b p = (decide (b.2 ≤ p.2) && decide (p.2 < a.2) && decide (0 < tn b.1 b.2 a.1 a.2 p.1 p.2))) := by
      change _ = _; unfold passP; rw [if_pos hgt, decide_eq_decide.2 (tn_pos b.1 b.2 a.1 a.2 p.1 p.2)]
    by_cases c1 : b.2 ≤ p.2
    · by_cases c2 : p.2 < a.2
      · have e2 : Hid (passP a b p = decide (0 < tn b.1 b.2 a.1 a.2 p.1 p.2)) := by change _ = _; rw [e1.out, decide_eq_true c1, decide_eq_true c2]; rfl
        go_enter Tryz.func102, Tryz.ntmps102
        go_wp2_with fail
        go_region
        all_goals (go_wp2_with (go_at_call 107; refine (turn_raw _ _ _ hb ha hp _).mono ?_; rintro e w1 ⟨rfl, J⟩))
        all_goals go_ret
        all_goals exact ⟨ret_bool e2.out.symm, bw_trans (by repeat (first | exact bw_refl _ | assumption | apply bw_drewN | apply bw_drew | apply bw_alloc | refine bw_set ?_ (by simp) _)) J⟩
      · have e2 : Hid (passP a b p = false) := by change _ = _; rw [e1.out, decide_eq_true c1, decide_eq_false c2]; rfl
        go_enter Tryz.func102, Tryz.ntmps102
        go_wp2_with fail
        go_region
        all_goals go_wp2_with fail
        all_goals go_ret
        all_goals exact ⟨ret_bool e2.out.symm, (by repeat (first | exact bw_refl _ | assumption | apply bw_drewN | apply bw_drew | apply bw_alloc | refine bw_set ?_ (by simp) _))⟩
    · have e2 : Hid (passP a b p = false) := by change _ = _; rw [e1.out, decide_eq_false c1]; rfl
      go_enter Tryz.func102, Tryz.ntmps102
      go_wp2_with fail
      go_region
      all_goals go_wp2_with fail
      all_goals go_ret
      all_goals exact ⟨ret_bool e2.out.symm, (by repeat (first | exact bw_refl _ | assumption | apply bw_drewN | apply bw_drew | apply bw_alloc | refine bw_set ?_ (by simp) _))⟩
  · have e1 : Hid (passP a b p = (decide (a.2 ≤ p.2) && decide (p.2 < b.2) && decide (0 < tn a.1 a.2 b.1 b.2 p.1 p.2))) := by
      change _ = _; unfold passP; rw [if_neg hgt, decide_eq_decide.2 (tn_pos a.1 a.2 b.1 b.2 p.1 p.2)]
    by_cases c1 : a.2 ≤ p.2
    · by_cases c2 : p.2 < b.2
      · have e2 : Hid (passP a b p = decide (0 < tn a.1 a.2 b.1 b.2 p.1 p.2)) := by change _ = _; rw [e1.out, decide_eq_true c1, decide_eq_true c2]; rfl
        go_enter Tryz.func102, Tryz.ntmps102
        go_wp2_with fail
        go_region
        all_goals (go_wp2_with (go_at_call 107; refine (turn_raw _ _ _ ha hb hp _).mono ?_; rintro e w1 ⟨rfl, J⟩))
        all_goals go_ret
        all_goals exact ⟨ret_bool e2.out.symm, bw_trans (by repeat (first | exact bw_refl _ | assumption | apply bw_drewN | apply bw_drew | apply bw_alloc | refine bw_set ?_ (by simp) _)) J⟩
      · have e2 : Hid (passP a b p = false) := by change _ = _; rw [e1.out, decide_eq_true c1, decide_eq_false c2]; rfl
        go_enter Tryz.func102, Tryz.ntmps102
        go_wp2_with fail
        go_region
        all_goals go_wp2_with fail
        all_goals go_ret
        all_goals exact ⟨ret_bool e2.out.symm, (by repeat (first | exact bw_refl _ | assumption | apply bw_drewN | apply bw_drew | apply bw_alloc | refine bw_set ?_ (by simp) _))⟩
    · have e2 : Hid (passP a b p = false) := by change _ = _; rw [e1.out, decide_eq_false c1]; rfl
      go_enter Tryz.func102, Tryz.ntmps102
      go_wp2_with fail
      go_region
      all_goals go_wp2_with fail
      all_goals go_ret
      all_goals exact ⟨ret_bool e2.out.symm, (by repeat (first | exact bw_refl _ | assumption | apply bw_drewN | apply bw_drew | apply bw_alloc | refine bw_set ?_ (by simp) _))⟩
end Go.Proofs.YthjnfjnnpabenaaGreatDoor
namespace Go.Proofs.YthjnfjnnpabenaaGreatDoor
open Go.RowKit Go.Sort

theorem sPt_raw (p : P2) (w : World) : Calls Tryz.prog 80 #[.agg #[.int .i64 p.1, .int .i64 p.2]] w fun e w' => e = .returned (.bool (ptB p.1 p.2)) ∧ Below w.heap.size w w' := sPt_any _ _ w
theorem inI_on {pts : List P2} {p : P2} {i : Nat} (hi : i < pts.length) (h : onE pts p i = true) : inI pts p = 0 := by
  unfold inI; rw [if_pos]; rw [List.any_eq_true]; exact ⟨i, List.mem_range.2 hi, h⟩
theorem inI_off {pts : List P2} {p : P2} (h : ∀ i, i < pts.length → onE pts p i = false) : inI pts p = whereK pts p pts.length := by
  unfold inI; rw [if_neg]; rw [List.any_eq_true]; rintro ⟨i, hi, e⟩; rw [h i (List.mem_range.1 hi)] at e; cases e
theorem regrow_none {W W' : World} {g j : Nat} {x0 x1 x2 x3 : Value} (h : W.cell? ⟨g, j * 4, none⟩ = some x0 ∧ W.cell? ⟨g, j * 4 + 1, none⟩ = some x1 ∧ W.cell? ⟨g, j * 4 + 2, none⟩ = some x2 ∧ W.cell? ⟨g, j * 4 + 3, none⟩ = some x3) (J : Below W.heap.size W W') (hg : g < W.heap.size) :
    W'.cell? ⟨g, j * 4, none⟩ = some x0 ∧ W'.cell? ⟨g, j * 4 + 1, none⟩ = some x1 ∧ W'.cell? ⟨g, j * 4 + 2, none⟩ = some x2 ∧ W'.cell? ⟨g, j * 4 + 3, none⟩ = some x3 :=
  ⟨(J.cell (p := ⟨g, j * 4, none⟩) hg).trans h.1, (J.cell (p := ⟨g, j * 4 + 1, none⟩) hg).trans h.2.1, (J.cell (p := ⟨g, j * 4 + 2, none⟩) hg).trans h.2.2.1, (J.cell (p := ⟨g, j * 4 + 3, none⟩) hg).trans h.2.2.2⟩
set_option maxRecDepth 100000 in
set_option maxHeartbeats 8000000 in
theorem sInI_ok (b off len cap : Nat) (pts : List P2) (p : P2) (hok : okV pts = true) (hp : ptB p.1 p.2 = true) (hl : pts.length = len) (w : World) (hb : b < w.heap.size)
    (hc : ∀ j, j < len → w.cell? ⟨b, off + j * 2, none⟩ = some (.int .i64 (ptAt pts j).1) ∧ w.cell? ⟨b, off + j * 2 + 1, none⟩ = some (.int .i64 (ptAt pts j).2)) :
    Calls Tryz.prog 42 #[.slice (some ⟨b, off, none⟩) len cap, .agg #[.int .i64 p.1, .int .i64 p.2]] w fun e w' => e = .returned (.int .i64 (inI pts p)) ∧ Below w.heap.size w w' := by
  have h3 := ((okV_iff pts).1 hok).lo
  have h8 := ((okV_iff pts).1 hok).hi
  have hS : Hid (∀ i, i < len → sgP (ptAt pts i) (ptAt pts (nxt pts i)) = true) := fun i hi => ((okV_iff pts).1 hok).seg i (by omega)
  have hl8 : 3 ≤ len ∧ len ≤ 8 := by omega
  have hcall := sEdges_ok b off len cap pts (w.alloc (.cells #[.int .i64 p.1, .int .i64 p.2] 73)) hl (by omega) (by omega) (by simp; omega) (fun j hj => by
    have := hc j hj
    exact ⟨(((Below.refl _ w).alloc (Nat.le_refl _) _).cell (p := ⟨b, off + j * 2, none⟩) hb).trans this.1, (((Below.refl _ w).alloc (Nat.le_refl _) _).cell (p := ⟨b, off + j * 2 + 1, none⟩) hb).trans this.2⟩)
  have LP : Lies w.heap.size #[.int .i64 p.1, .int .i64 p.2] 73 (w.alloc (.cells #[.int .i64 p.1, .int .i64 p.2] 73)) := Lies.new w _ _
  have HL : Hid (pts.length = len) := hl
  clear hok h3 h8 hl hc
  go_enter Tryz.func42, Tryz.ntmps42
  go_wp2_with (go_at_call 60; refine hcall.mono ?_; rintro e w1 ⟨v, rfl, hown, J0⟩)
  have hR : ∃ g cap', v = .slice (some ⟨g, 0, none⟩) len cap' ∧ g < w1.heap.size ∧ SegRow w1 g len pts := by
    have hown' := hown
    rcases hown.2 with ⟨_, h0⟩ | ⟨g, cap', cur, rfl, hg1, hg2, _⟩
    · omega
    · exact ⟨g, cap', rfl, (Array.getElem?_eq_some_iff.1 hg2).1, SegRow.of_owns hown'⟩
  obtain ⟨g, cap', rfl, hg, hR⟩ := hR
  replace LP := LP.below J0
  have B1 : Below w.heap.size w w1 := bw_trans (by repeat (first | exact bw_refl _ | assumption | apply bw_drewN | apply bw_drew | apply bw_alloc | refine bw_set ?_ (by simp) _)) J0
  clear hown hcall J0
  go_wp2_with fail
  go_loopw [5, 7] (fun s i wr => ∃ k : Nat, k ≤ len ∧ i = .int .i64 k ∧ s = .int .i64 (whereK pts p k) ∧ (∀ j, j < k → onE pts p j = false) ∧ Below w1.heap.size w1 wr) (fun _ i _ => len - (intOf i).toNat)
  case atStart => exact ⟨0, by omega, rfl, rfl, fun j hj => by omega, bw_refl _⟩
  case round =>
    obtain ⟨k, hk, rfl, rfl, hoff, hnx⟩ := hrel
    by_cases hlt : k < len
    case neg =>
      obtain rfl : k = len := by omega
      have e1 : Hid (inI pts p = whereK pts p k) := by change _ = _; rw [inI_off (by rw [HL.out]; exact hoff), HL.out]
      go_wp2_with fail
      go_ret
      exact ⟨ret_int e1.out.symm, bw_trans B1 hnx⟩
    case pos =>
      have sk := hS.out k hlt
      obtain ⟨pa, pb⟩ := sgP_pt sk
      have i0 : (0 : Int) ≤ (k : Int) := Int.natCast_nonneg _
      have i1 : (k : Int) < (len : Int) := by omega
      have q1 : IntKind.i64.wrap ((k : Int) + 1) = (k : Int) + 1 := wrap_small (by omega) (by omega)
      have hRk := (hR.below hnx hg) k hlt
      obtain ⟨d0, d1, d2, d3⟩ := regrow4 hRk
      have LPk := LP.below hnx
      obtain ⟨u0, u1⟩ := reg_2 LPk
      have wpm := whereK_pm pts p k
      cases hon : onE pts p k
      case true =>
        have e1 : Hid (inI pts p = 0) := inI_on (by rw [HL.out]; exact hlt) hon
        have X1 : Hid (∀ w, Calls Tryz.prog 62 #[.agg #[.int .i64 (ptAt pts k).1, .int .i64 (ptAt pts k).2, .int .i64 (ptAt pts (nxt pts k)).1, .int .i64 (ptAt pts (nxt pts k)).2], .agg #[.int .i64 p.1, .int .i64 p.2]] w fun e w' => e = .returned (.bool true) ∧ Below w.heap.size w w') := fun w => by
          have := sHas_raw _ _ _ sk hp w; unfold onE at hon; rwa [hon] at this
        go_wp2_with fail
        refine wp_region_quiet_below (by kernel_rfl) (by kernel_rfl) ?_
        repeat (first | go_big_quiet_step (first | (go_at_call 62; with_reducible exact Calls.regrown_of (X1.out _))))
        refine wpQuiet_nil ?_
        intro _ hw'
        obtain ⟨⟨dq, osq⟩, hw''⟩ := hw'
        subst hw''
        have J := below_regrown wr dq osq
        generalize grow (redrawn wr dq) osq = w2 at J ⊢
        go_wp2_with fail
        go_ret
        exact ⟨ret_int e1.out.symm, bw_trans (bw_trans B1 hnx) J⟩
      case false =>
        have X1 : Hid (∀ w, Calls Tryz.prog 62 #[.agg #[.int .i64 (ptAt pts k).1, .int .i64 (ptAt pts k).2, .int .i64 (ptAt pts (nxt pts k)).1, .int .i64 (ptAt pts (nxt pts k)).2], .agg #[.int .i64 p.1, .int .i64 p.2]] w fun e w' => e = .returned (.bool false) ∧ Below w.heap.size w w') := fun w => by
          have := sHas_raw _ _ _ sk hp w; unfold onE at hon; rwa [hon] at this
        have step : ∀ (s : Int) (X : World), Below w1.heap.size w1 X → whereK pts p (k + 1) = s → ∃ k' : Nat, k' ≤ len ∧ Value.int .i64 ((k : Int) + 1) = .int .i64 k' ∧ Value.int .i64 s = .int .i64 (whereK pts p k') ∧ (∀ j, j < k' → onE pts p j = false) ∧ Below w1.heap.size w1 X :=
          fun s X hX hs => ⟨k + 1, by omega, by simp, by rw [hs], fun j hj => by rcases Nat.lt_or_ge j k with h | h; exact hoff j h; obtain rfl : j = k := (by omega); exact hon, hX⟩
        have hyes : passP (ptAt pts k) (ptAt pts (nxt pts k)) p = true → Hid (whereK pts p (k + 1) = - whereK pts p k) := fun h => by change _ = _; simp only [whereK]; unfold passE; rw [h]; rfl
        have hno : passP (ptAt pts k) (ptAt pts (nxt pts k)) p = false → Hid (whereK pts p (k + 1) = whereK pts p k) := fun h => by change _ = _; simp only [whereK]; unfold passE; rw [h]; rfl
        clear hon hoff
        generalize whereK pts p k = u at *
        generalize ptAt pts k = a at *
        generalize ptAt pts (nxt pts k) = b at *
        have nu : IntKind.i64.wrap (-u) = -u := wrap_small (by omega) (by omega)
        go_wp2_with fail
        refine wp_region_quiet_below (by kernel_rfl) (by kernel_rfl) ?_
        repeat (first | go_big_quiet_step (first | (go_at_call 62; with_reducible exact Calls.regrown_of (X1.out _))))
        refine wpQuiet_nil ?_
        intro _ hw'
        obtain ⟨⟨dq, osq⟩, hw''⟩ := hw'
        subst hw''
        have J := below_regrown wr dq osq
        generalize grow (redrawn wr dq) osq = w2 at J ⊢
        have hn2 := bw_trans hnx J
        have hR2 := regrow_none hRk J (by have := hnx.size; omega)
        obtain ⟨d0', d1', d2', d3'⟩ := hR2
        obtain ⟨p0, p1⟩ := blk_2 (LPk.below J)
        have zg : g < w2.heap.size := by have := hn2.size; omega
        have zp := (LPk.below J).lt
        clear J d0 d1 d2 d3 u0 u1 hRk LPk X1
        by_cases hgt : b.2 < a.2
        · have e1 : Hid (passP a b p = (decide (b.2 ≤ p.2) && decide (p.2 < a.2) && decide (0 < crs b.1 b.2 a.1 a.2 p.1 p.2))) := by
            change _ = _; unfold passP; rw [if_pos hgt]
          by_cases c1 : b.2 ≤ p.2
          · by_cases c2 : p.2 < a.2
            · by_cases c3 : 0 < crs b.1 b.2 a.1 a.2 p.1 p.2
              · have e2 := hyes (by rw [e1.out, decide_eq_true c1, decide_eq_true c2, decide_eq_true c3]; rfl)
                go_wp2_with (go_at_call 64; refine (sCross_raw _ _ _ pb pa hp _).mono ?_; rintro e w3 ⟨rfl, J⟩)
                go_roundw
                case rel => exact step _ _ (bw_trans (by repeat (first | exact hn2 | apply bw_alloc | refine bw_set ?_ (by simp; omega) _)) J) e2.out
                case measure => simp [intOf]; omega
              · have e2 := hno (by rw [e1.out, decide_eq_true c1, decide_eq_true c2, decide_eq_false c3]; rfl)
                go_wp2_with (go_at_call 64; refine (sCross_raw _ _ _ pb pa hp _).mono ?_; rintro e w3 ⟨rfl, J⟩)
                go_roundw
                case rel => exact step _ _ (bw_trans (by repeat (first | exact hn2 | apply bw_alloc | refine bw_set ?_ (by simp; omega) _)) J) e2.out
                case measure => simp [intOf]; omega
            · have e2 := hno (by rw [e1.out, decide_eq_true c1, decide_eq_false c2]; rfl)
              go_wp2_with fail
              go_roundw
              case rel => exact step _ _ (by repeat (first | exact hn2 | apply bw_alloc | refine bw_set ?_ (by simp; omega) _)) e2.out
              case measure => simp [intOf]; omega
          · have e2 := hno (by rw [e1.out, decide_eq_false c1]; rfl)
            go_wp2_with fail
            go_roundw
            case rel => exact step _ _ (by repeat (first | exact hn2 | apply bw_alloc | refine bw_set ?_ (by simp; omega) _)) e2.out
            case measure => simp [intOf]; omega
        · have e1 : Hid (passP a b p = (decide (a.2 ≤ p.2) && decide (p.2 < b.2) && decide (0 < crs a.1 a.2 b.1 b.2 p.1 p.2))) := by
            change _ = _; unfold passP; rw [if_neg hgt]
          by_cases c1 : a.2 ≤ p.2
          · by_cases c2 : p.2 < b.2
            · by_cases c3 : 0 < crs a.1 a.2 b.1 b.2 p.1 p.2
              · have e2 := hyes (by rw [e1.out, decide_eq_true c1, decide_eq_true c2, decide_eq_true c3]; rfl)
                go_wp2_with (go_at_call 64; refine (sCross_raw _ _ _ pa pb hp _).mono ?_; rintro e w3 ⟨rfl, J⟩)
                go_roundw
                case rel => exact step _ _ (bw_trans (by repeat (first | exact hn2 | apply bw_alloc | refine bw_set ?_ (by simp; omega) _)) J) e2.out
                case measure => simp [intOf]; omega
              · have e2 := hno (by rw [e1.out, decide_eq_true c1, decide_eq_true c2, decide_eq_false c3]; rfl)
                go_wp2_with (go_at_call 64; refine (sCross_raw _ _ _ pa pb hp _).mono ?_; rintro e w3 ⟨rfl, J⟩)
                go_roundw
                case rel => exact step _ _ (bw_trans (by repeat (first | exact hn2 | apply bw_alloc | refine bw_set ?_ (by simp; omega) _)) J) e2.out
                case measure => simp [intOf]; omega
            · have e2 := hno (by rw [e1.out, decide_eq_true c1, decide_eq_false c2]; rfl)
              go_wp2_with fail
              go_roundw
              case rel => exact step _ _ (by repeat (first | exact hn2 | apply bw_alloc | refine bw_set ?_ (by simp; omega) _)) e2.out
              case measure => simp [intOf]; omega
          · have e2 := hno (by rw [e1.out, decide_eq_false c1]; rfl)
            go_wp2_with fail
            go_roundw
            case rel => exact step _ _ (by repeat (first | exact hn2 | apply bw_alloc | refine bw_set ?_ (by simp; omega) _)) e2.out
            case measure => simp [intOf]; omega
end Go.Proofs.YthjnfjnnpabenaaGreatDoor
namespace Go.Proofs.YthjnfjnnpabenaaGreatDoor

/-- A point between: its side of a line is weighed from the ends'. -/
theorem weigh {a b q : P2} (h : crs a.1 a.2 b.1 b.2 q.1 q.2 = 0) (c d : P2) : crs c.1 c.2 d.1 d.2 q.1 q.2 * dt a.1 a.2 b.1 b.2 b.1 b.2 = crs c.1 c.2 d.1 d.2 a.1 a.2 * (dt a.1 a.2 b.1 b.2 b.1 b.2 - dt a.1 a.2 b.1 b.2 q.1 q.2) + crs c.1 c.2 d.1 d.2 b.1 b.2 * dt a.1 a.2 b.1 b.2 q.1 q.2 := by
  unfold dt crs at *; grind
theorem weighD {a b q : P2} (h : crs a.1 a.2 b.1 b.2 q.1 q.2 = 0) (c d : P2) : dt c.1 c.2 d.1 d.2 q.1 q.2 * dt a.1 a.2 b.1 b.2 b.1 b.2 = dt c.1 c.2 d.1 d.2 a.1 a.2 * (dt a.1 a.2 b.1 b.2 b.1 b.2 - dt a.1 a.2 b.1 b.2 q.1 q.2) + dt c.1 c.2 d.1 d.2 b.1 b.2 * dt a.1 a.2 b.1 b.2 q.1 q.2 := by
  unfold dt crs at *; grind
/-- A segment through a point of another one splits its ends, or has one, or lies in its line. -/
theorem split_or {a b c d q : P2} (hab : a ≠ b) (h1 : hasP a b q = true) (h2 : hasP c d q = true) :
    splB c.1 c.2 d.1 d.2 a.1 a.2 b.1 b.2 = true ∨ hasP c d a = true ∨ hasP c d b = true ∨ (crs c.1 c.2 d.1 d.2 a.1 a.2 = 0 ∧ crs c.1 c.2 d.1 d.2 b.1 b.2 = 0) := by
  have hd := d_ne hab
  obtain ⟨q1, q2, q3⟩ := (has_along hd).1 h1
  have hD := dt_self_pos hd
  have w := weigh q1 c d
  have hc0 : crs c.1 c.2 d.1 d.2 q.1 q.2 = 0 := ((hasC_iff _ _ _ _ _ _).1 h2).1
  rw [hc0, Int.zero_mul] at w
  by_cases ha : q = a
  · subst ha; exact .inr (.inl h2)
  by_cases hb : q = b
  · subst hb; exact .inr (.inr (.inl h2))
  have k1 := has_end_dir hd h1 (d_ne hb)
  have k2 : 0 < dt a.1 a.2 b.1 b.2 q.1 q.2 := by
    have := has_end_dir (d_ne (Ne.symm hab)) (by rw [has_back a.1 a.2]; exact h1) (d_ne ha)
    rw [dt_self_back a.1 a.2, dt_back a.1 a.2 b.1 b.2 q.1 q.2] at this
    omega
  rw [spl_iff]
  generalize crs c.1 c.2 d.1 d.2 a.1 a.2 = u at *
  generalize crs c.1 c.2 d.1 d.2 b.1 b.2 = v at *
  generalize dt a.1 a.2 b.1 b.2 b.1 b.2 - dt a.1 a.2 b.1 b.2 q.1 q.2 = s at *
  generalize dt a.1 a.2 b.1 b.2 q.1 q.2 = t at *
  rcases Int.lt_trichotomy u 0 with hu | hu | hu
  · left; left
    refine ⟨hu, ?_⟩
    have := Int.mul_neg_of_neg_of_pos hu k1
    rcases Int.lt_or_le 0 v with h | h
    · exact h
    · have := Int.mul_nonpos_of_nonpos_of_nonneg h (show 0 ≤ t by omega); omega
  · right; right; right
    rw [hu, Int.zero_mul, Int.zero_add] at w
    rcases Int.mul_eq_zero.1 w.symm with h | h
    · exact ⟨hu, h⟩
    · omega
  · left; right
    refine ⟨hu, ?_⟩
    have := Int.mul_pos hu k1
    rcases Int.lt_or_le v 0 with h | h
    · exact h
    · have := Int.mul_nonneg h (show 0 ≤ t by omega); omega
theorem opp_of {u v s t T M : Int} (hs : 0 ≤ s) (ht : 0 ≤ t) (hst : 0 < s + t) (w : T * (s + t) = u * s + v * t) (T0 : 0 ≤ T) (T1 : T ≤ M) (hu : ¬ (0 ≤ u ∧ u ≤ M)) (hv : ¬ (0 ≤ v ∧ v ≤ M)) : u * v ≤ 0 := by
  by_cases h1 : u < 0
  · by_cases h2 : v < 0
    · exfalso
      have t1 := Int.mul_le_mul_of_nonneg_right (show u ≤ -1 by omega) hs
      have t2 := Int.mul_le_mul_of_nonneg_right (show v ≤ -1 by omega) ht
      have t3 := Int.mul_nonneg T0 (show 0 ≤ s + t by omega)
      omega
    · exact Int.mul_nonpos_of_nonpos_of_nonneg (by omega) (by omega)
  · by_cases h2 : v < 0
    · exact Int.mul_nonpos_of_nonneg_of_nonpos (by omega) (by omega)
    · exfalso
      have t1 := Int.mul_le_mul_of_nonneg_right (show M + 1 ≤ u by omega) hs
      have t2 := Int.mul_le_mul_of_nonneg_right (show M + 1 ≤ v by omega) ht
      have t3 := Int.mul_le_mul_of_nonneg_right T1 (show 0 ≤ s + t by omega)
      have e : (M + 1) * s + (M + 1) * t = M * (s + t) + (s + t) := by grind
      omega
/-- Who has a point in common meets. -/
theorem common_meet {a b c d q : P2} (hab : a ≠ b) (hcd : c ≠ d) (h1 : hasP a b q = true) (h2 : hasP c d q = true) : meetP a b c d = true := by
  unfold meetP
  rw [meet_alt0]
  rcases split_or hab h1 h2 with h | h | h | ⟨h3, h4⟩
  · rcases split_or hcd h2 h1 with h' | h' | h' | ⟨h5, h6⟩
    · rw [h, h']; rfl
    · unfold hasP at h'; rw [h']; simp
    · unfold hasP at h'; rw [h']; simp
    · -- the other one lies in the line: so does this one
      exfalso
      rw [spl_iff] at h
      have e1 : crs c.1 c.2 d.1 d.2 a.1 a.2 * dt a.1 a.2 b.1 b.2 b.1 b.2 = crs a.1 a.2 b.1 b.2 d.1 d.2 * dt a.1 a.2 b.1 b.2 c.1 c.2 - crs a.1 a.2 b.1 b.2 c.1 c.2 * dt a.1 a.2 b.1 b.2 d.1 d.2 := by unfold dt crs; grind
      rw [h5, h6, Int.zero_mul, Int.zero_mul] at e1
      have hD := dt_self_pos (d_ne hab)
      rcases Int.mul_eq_zero.1 (show crs c.1 c.2 d.1 d.2 a.1 a.2 * dt a.1 a.2 b.1 b.2 b.1 b.2 = 0 from e1) with h | h <;> omega
  · unfold hasP at h; rw [h]; simp
  · unfold hasP at h; rw [h]; simp
  · -- all in one line
    have hd := d_ne hab
    have hd' := d_ne hcd
    obtain ⟨q1, q2, q3⟩ := (has_along hd).1 h1
    obtain ⟨p1, p2, p3⟩ := (has_along hd').1 h2
    have w := weighD q1 c d
    have hD := dt_self_pos hd
    have hD' := dt_self_pos hd'
    by_cases i1 : 0 ≤ dt c.1 c.2 d.1 d.2 a.1 a.2 ∧ dt c.1 c.2 d.1 d.2 a.1 a.2 ≤ dt c.1 c.2 d.1 d.2 d.1 d.2
    · have := (has_along hd').2 ⟨h3, i1.1, i1.2⟩; rw [this]; simp
    by_cases i2 : 0 ≤ dt c.1 c.2 d.1 d.2 b.1 b.2 ∧ dt c.1 c.2 d.1 d.2 b.1 b.2 ≤ dt c.1 c.2 d.1 d.2 d.1 d.2
    · have := (has_along hd').2 ⟨h4, i2.1, i2.2⟩; rw [this]; simp
    have hc : hasC a.1 a.2 b.1 b.2 c.1 c.2 = true := by
      rw [hasC_iff]
      constructor
      · have e1 : crs a.1 a.2 b.1 b.2 c.1 c.2 * dt c.1 c.2 d.1 d.2 d.1 d.2 = crs c.1 c.2 d.1 d.2 b.1 b.2 * dt c.1 c.2 d.1 d.2 a.1 a.2 - crs c.1 c.2 d.1 d.2 a.1 a.2 * dt c.1 c.2 d.1 d.2 b.1 b.2 := by unfold dt crs; grind
        rw [h3, h4, Int.zero_mul, Int.zero_mul] at e1
        rcases Int.mul_eq_zero.1 (show crs a.1 a.2 b.1 b.2 c.1 c.2 * dt c.1 c.2 d.1 d.2 d.1 d.2 = 0 from e1) with h | h
        · exact h
        · omega
      · have e1 : dt c.1 c.2 a.1 a.2 b.1 b.2 * dt c.1 c.2 d.1 d.2 d.1 d.2 = dt c.1 c.2 d.1 d.2 a.1 a.2 * dt c.1 c.2 d.1 d.2 b.1 b.2 + crs c.1 c.2 d.1 d.2 a.1 a.2 * crs c.1 c.2 d.1 d.2 b.1 b.2 := by unfold dt crs; grind
        rw [h3, Int.zero_mul, Int.add_zero] at e1
        have opp : dt c.1 c.2 d.1 d.2 a.1 a.2 * dt c.1 c.2 d.1 d.2 b.1 b.2 ≤ 0 := by
          exact opp_of (s := dt a.1 a.2 b.1 b.2 b.1 b.2 - dt a.1 a.2 b.1 b.2 q.1 q.2) (t := dt a.1 a.2 b.1 b.2 q.1 q.2) (by omega) q2 (by omega) (by rw [← w]; congr 1; omega) p2 p3 i1 i2
        rcases Int.lt_or_le 0 (dt c.1 c.2 a.1 a.2 b.1 b.2) with h | h
        · have := Int.mul_pos h hD'; omega
        · exact h
    rw [hc]; simp
/-- What meets a part meets the whole. -/
theorem meet_sub {a b c d q : P2} (hne : a ≠ b) (hcd : c ≠ d) (hq : hasP a b q = true) (hb : q ≠ b) (h : meetP q b c d = true) : meetP a b c d = true := by
  have hd := d_ne hne
  have hqb := d_ne hb
  have hk := has_end_dir hd hq hqb
  obtain ⟨q1, q2, q3⟩ := (has_along hd).1 hq
  have hD := dt_self_pos hd
  have sub : ∀ x y, hasC q.1 q.2 b.1 b.2 x y = true → hasC a.1 a.2 b.1 b.2 x y = true := by
    intro x y hx
    obtain ⟨x1, x2, x3⟩ := (has_along hqb).1 hx
    have e : ∀ x y, crs q.1 q.2 b.1 b.2 x y * dt a.1 a.2 b.1 b.2 b.1 b.2 = (dt a.1 a.2 b.1 b.2 b.1 b.2 - dt a.1 a.2 b.1 b.2 q.1 q.2) * crs a.1 a.2 b.1 b.2 x y := by intro x y; unfold dt crs at *; grind
    have e1 := e x y
    rw [x1, Int.zero_mul] at e1
    have c0 : crs a.1 a.2 b.1 b.2 x y = 0 := by
      rcases Int.mul_eq_zero.1 e1.symm with h | h
      · omega
      · exact h
    have e2 : dt q.1 q.2 b.1 b.2 x y * dt a.1 a.2 b.1 b.2 b.1 b.2 = (dt a.1 a.2 b.1 b.2 b.1 b.2 - dt a.1 a.2 b.1 b.2 q.1 q.2) * (dt a.1 a.2 b.1 b.2 x y - dt a.1 a.2 b.1 b.2 q.1 q.2) := by unfold dt crs at *; grind
    have e3 : dt q.1 q.2 b.1 b.2 b.1 b.2 * dt a.1 a.2 b.1 b.2 b.1 b.2 = (dt a.1 a.2 b.1 b.2 b.1 b.2 - dt a.1 a.2 b.1 b.2 q.1 q.2) * (dt a.1 a.2 b.1 b.2 b.1 b.2 - dt a.1 a.2 b.1 b.2 q.1 q.2) := by unfold dt crs at *; grind
    refine (has_along hd).2 ⟨c0, ?_, ?_⟩
    · have t := Int.mul_nonneg x2 (show 0 ≤ dt a.1 a.2 b.1 b.2 b.1 b.2 by omega)
      rcases Int.lt_or_le (dt a.1 a.2 b.1 b.2 x y - dt a.1 a.2 b.1 b.2 q.1 q.2) 0 with h | h
      · have := Int.mul_neg_of_pos_of_neg hk h; omega
      · omega
    · have t := Int.mul_le_mul_of_nonneg_right x3 (show 0 ≤ dt a.1 a.2 b.1 b.2 b.1 b.2 by omega)
      rw [e2, e3] at t
      have := Int.le_of_mul_le_mul_left t hk
      omega
  unfold meetP at h
  rw [meet_alt0] at h
  simp only [Bool.or_eq_true, Bool.and_eq_true] at h
  rcases h with (((⟨h1, h2⟩ | h) | h) | h) | h
  · have s1 : splB a.1 a.2 b.1 b.2 c.1 c.2 d.1 d.2 = true := by
      have e : ∀ x y, crs q.1 q.2 b.1 b.2 x y * dt a.1 a.2 b.1 b.2 b.1 b.2 = (dt a.1 a.2 b.1 b.2 b.1 b.2 - dt a.1 a.2 b.1 b.2 q.1 q.2) * crs a.1 a.2 b.1 b.2 x y := by intro x y; unfold dt crs at *; grind
      have sg : ∀ x y, (0 < crs q.1 q.2 b.1 b.2 x y → 0 < crs a.1 a.2 b.1 b.2 x y) ∧ (crs q.1 q.2 b.1 b.2 x y < 0 → crs a.1 a.2 b.1 b.2 x y < 0) := by
        intro x y
        have := e x y
        constructor
        · intro hp
          rcases Int.lt_or_le 0 (crs a.1 a.2 b.1 b.2 x y) with h' | h'
          · exact h'
          · have t1 := Int.mul_pos hp hD
            have t2 := Int.mul_nonpos_of_nonneg_of_nonpos (show 0 ≤ dt a.1 a.2 b.1 b.2 b.1 b.2 - dt a.1 a.2 b.1 b.2 q.1 q.2 by omega) h'
            omega
        · intro hp
          rcases Int.lt_or_le (crs a.1 a.2 b.1 b.2 x y) 0 with h' | h'
          · exact h'
          · have t1 := Int.mul_neg_of_neg_of_pos hp hD
            have t2 := Int.mul_nonneg (show 0 ≤ dt a.1 a.2 b.1 b.2 b.1 b.2 - dt a.1 a.2 b.1 b.2 q.1 q.2 by omega) h'
            omega
      rw [spl_iff] at h1 ⊢
      rcases h1 with ⟨h1, h2⟩ | ⟨h1, h2⟩
      · exact .inl ⟨(sg _ _).2 h1, (sg _ _).1 h2⟩
      · exact .inr ⟨(sg _ _).1 h1, (sg _ _).2 h2⟩
    have s2 : splB c.1 c.2 d.1 d.2 a.1 a.2 b.1 b.2 = true := by
      -- q's side, times the whole, is a's and b's, weighed
      have e : crs c.1 c.2 d.1 d.2 q.1 q.2 * dt a.1 a.2 b.1 b.2 b.1 b.2 = crs c.1 c.2 d.1 d.2 a.1 a.2 * (dt a.1 a.2 b.1 b.2 b.1 b.2 - dt a.1 a.2 b.1 b.2 q.1 q.2) + crs c.1 c.2 d.1 d.2 b.1 b.2 * dt a.1 a.2 b.1 b.2 q.1 q.2 := by unfold dt crs at *; grind
      rw [spl_iff] at h2 ⊢
      rcases h2 with ⟨h1, h2⟩ | ⟨h1, h2⟩
      · left
        refine ⟨?_, h2⟩
        have t1 := Int.mul_neg_of_neg_of_pos h1 hD
        have t2 := Int.mul_nonneg (show 0 ≤ crs c.1 c.2 d.1 d.2 b.1 b.2 by omega) q2
        rcases Int.lt_or_le (crs c.1 c.2 d.1 d.2 a.1 a.2) 0 with h' | h'
        · exact h'
        · have := Int.mul_nonneg h' (show 0 ≤ dt a.1 a.2 b.1 b.2 b.1 b.2 - dt a.1 a.2 b.1 b.2 q.1 q.2 by omega); omega
      · right
        refine ⟨?_, h2⟩
        have t1 := Int.mul_pos h1 hD
        have t2 := Int.mul_nonpos_of_nonpos_of_nonneg (show crs c.1 c.2 d.1 d.2 b.1 b.2 ≤ 0 by omega) q2
        rcases Int.lt_or_le 0 (crs c.1 c.2 d.1 d.2 a.1 a.2) with h' | h'
        · exact h'
        · have := Int.mul_nonpos_of_nonpos_of_nonneg h' (show 0 ≤ dt a.1 a.2 b.1 b.2 b.1 b.2 - dt a.1 a.2 b.1 b.2 q.1 q.2 by omega); omega
    unfold meetP; rw [meet_alt0, s1, s2]; rfl
  · have := sub _ _ h; unfold meetP; rw [meet_alt0, this]; simp
  · have := sub _ _ h; unfold meetP; rw [meet_alt0, this]; simp
  · exact common_meet hne hcd hq h
  · unfold meetP; rw [meet_alt0, h]; simp
/-- No edge is a point. -/
def Edgy (l : List P2) : Prop := ∀ i, i < l.length → ptAt l i ≠ ptAt l (nxt l i)
theorem okV_edgy {l : List P2} (h : okV l = true) : Edgy l := fun i hi => sgP_ne (((okV_iff l).1 h).seg i hi)
/-- A point on a loop that does not meet another one is on the same side of it as its corners. -/
theorem edge_side {o h : List P2} {p : P2} (ho : Edgy o) (hh : Edgy h) (hm : apL o h = true) (hon : onL h p = true) : inI o p = inI o (ptAt h 0) ∧ onL o p = false := by
  have hs := apL_same hm
  obtain ⟨k, hk, hk2⟩ := (onL_iff h p).1 hon
  have hn : nxt h k < h.length := nxt_lt (by omega)
  by_cases e : p = ptAt h (nxt h k)
  · rw [e]; exact hs _ hn
  · have hw := inI_way (l := o) (p := p) (q := ptAt h (nxt h k)) (fun j hj => by
      rw [Bool.eq_false_iff]
      intro hc
      rw [meetP_comm] at hc
      have := meet_sub (hh k hk) (ho j hj) hk2 e hc
      rw [meetP_comm, (apL_iff o h).1 hm j hj k hk] at this
      cases this)
    exact ⟨hw.1.trans (hs _ hn).1, hw.2.1⟩
theorem on_side {o h : List P2} {p : P2} (ho : okV o = true) (hh : okV h = true) (hm : apL o h = true) (hon : onL h p = true) : inI o p = inI o (ptAt h 0) ∧ onL o p = false :=
  edge_side (okV_edgy ho) (okV_edgy hh) hm hon
/-- Where a point is, seen from a plate. -/
def plI (o : List P2) (hs : List (List P2)) (p : P2) : Int := hs.foldl (fun s h => min s (-(inI h p))) (inI o p)
def plInV (o : List P2) (hs : List (List P2)) (p : P2) : Int := if plV o hs && ptB p.1 p.2 then plI o hs p else -1
theorem inI_3 (l : List P2) (p : P2) : inI l p = 0 ∨ inI l p = 1 ∨ inI l p = -1 := by
  cases h : onL l p
  · right; exact inI_pm h
  · left; exact (inI_zero l p).2 h
theorem plI_snoc (o : List P2) (hs : List (List P2)) (h p) : plI o (hs ++ [h]) p = min (plI o hs p) (-(inI h p)) := by unfold plI; rw [List.foldl_append]; rfl
theorem plI_cons (o : List P2) (hs : List (List P2)) (h p) : plI o (hs ++ [h]) p = min (plI o hs p) (-(inI h p)) := plI_snoc o hs h p
theorem plI_one {o : List P2} {hs : List (List P2)} (hv : plV o hs = true) (p : P2) : plI o hs p = 1 ↔ inI o p = 1 ∧ ∀ h ∈ hs, inI h p = -1 := by
  match hs, hv with
  | [], _ => simp [plI]
  | [a], _ => have := inI_3 o p; have := inI_3 a p; simp [plI]; omega
  | [a, b], _ => have := inI_3 o p; have := inI_3 a p; have := inI_3 b p; simp [plI]; omega
  | _ :: _ :: _ :: _, h => simp [plV] at h
theorem plI_zero {o : List P2} {hs : List (List P2)} (hv : plV o hs = true) {p : P2} : plI o hs p = 0 ↔ onL o p = true ∨ ∃ h ∈ hs, onL h p = true := by
  have arO : ∀ a, okV o = true → okV a = true → arB o a = true → (onL o p = true → inI a p = -1) ∧ (onL a p = true → inI o p = 1) := by
    intro a h1 h2 h3
    rw [arB_iff] at h3
    have z1 := okV_pos h1
    have z2 := okV_pos h2
    constructor
    · intro hon
      rw [(on_side h2 h1 (by rw [apL_comm]; exact h3.1) hon).1]
      exact not_both (by omega) (by omega) h3.1 h3.2 0 (by omega)
    · intro hon; rw [(on_side h1 h2 h3.1 hon).1]; exact h3.2
  have beO : ∀ a b, okV a = true → okV b = true → beB a b = true → (onL a p = true → inI b p = -1) ∧ (onL b p = true → inI a p = -1) := by
    intro a b h1 h2 h3
    rw [beB_iff] at h3
    exact ⟨fun hon => by rw [(on_side h2 h1 (by rw [apL_comm]; exact h3.1) hon).1]; exact h3.2.2, fun hon => by rw [(on_side h1 h2 h3.1 hon).1]; exact h3.2.1⟩
  match hs, hv with
  | [], _ => simp [plI, inI_zero]
  | [a], hv =>
    simp only [plV, Bool.and_eq_true] at hv
    have t := arO a hv.1.1 hv.1.2 hv.2
    have e1 := inI_3 o p
    have e2 := inI_3 a p
    have z1 := inI_zero o p
    have z2 := inI_zero a p
    simp only [plI, List.foldl_cons, List.foldl_nil, List.mem_cons, List.not_mem_nil, or_false, exists_eq_left]
    rw [← z1, ← z2] at t ⊢
    omega
  | [a, b], hv =>
    simp only [plV, Bool.and_eq_true] at hv
    obtain ⟨⟨⟨⟨⟨h1, h2⟩, h3⟩, h4⟩, h5⟩, h6⟩ := hv
    have t := arO a h1 h2 h4
    have u := arO b h1 h3 h5
    have v := beO a b h2 h3 h6
    have e1 := inI_3 o p
    have e2 := inI_3 a p
    have e3 := inI_3 b p
    have z1 := inI_zero o p
    have z2 := inI_zero a p
    have z3 := inI_zero b p
    simp only [plI, List.foldl_cons, List.foldl_nil, List.mem_cons, List.not_mem_nil, or_false, exists_eq_or_imp, exists_eq_left]
    rw [← z1, ← z2] at t
    rw [← z1, ← z3] at u
    rw [← z2, ← z3] at v
    rw [← z1, ← z2, ← z3]
    omega
  | _ :: _ :: _ :: _, h => simp [plV] at h
/-- Corners of a hole are in the outer loop, and beyond the other hole. -/
theorem hole_in {o : List P2} {hs : List (List P2)} (h : PlL o hs) {i : Nat} (hi : i < hs.length) {k : Nat} (hk : k < (hs[i]?.getD []).length) : inI o (ptAt (hs[i]?.getD []) k) = 1 := by
  have hm : hs[i]?.getD [] ∈ hs := by rw [List.getElem?_eq_getElem hi, Option.getD_some]; exact List.getElem_mem hi
  have := (arB_iff _ _).1 (h.ar _ hm)
  rw [(apL_same this.1 k hk).1]; exact this.2
theorem hole_out {o : List P2} {hs : List (List P2)} (h : PlL o hs) {i j : Nat} (hi : i < hs.length) (hj : j < hs.length) (hij : i ≠ j) {k : Nat} (hk : k < (hs[i]?.getD []).length) : inI (hs[j]?.getD []) (ptAt (hs[i]?.getD []) k) = -1 := by
  rcases Nat.lt_or_gt_of_ne hij with h1 | h1
  · have := (beB_iff _ _).1 (h.be i j h1 hj)
    rw [(apL_same (show apL (hs[j]?.getD []) (hs[i]?.getD []) = true by rw [apL_comm]; exact this.1) k hk).1]; exact this.2.2
  · have := (beB_iff _ _).1 (h.be j i h1 hi)
    rw [(apL_same this.1 k hk).1]; exact this.2.1
theorem apL_self {l : List P2} (h : 0 < l.length) : apL l l = false := by
  rw [Bool.eq_false_iff]
  intro hc
  have := (apL_iff l l).1 hc 0 h 0 h
  unfold meetP at this
  rw [meet_self] at this
  cases this
theorem plV_self {o : List P2} (h : okV o = true) : plV o [o] = false := by
  have := okV_pos h
  simp only [plV, arB]; rw [apL_self (by omega)]; simp
theorem plV_twice {o h : List P2} (hh : okV h = true) : plV o [h, h] = false := by
  have := okV_pos hh
  simp only [plV, beB]; rw [apL_self (by omega)]; simp
theorem plV_turned {o h : List P2} (ho : okV o = true) (hh : okV h = true) (ha : arB o h = true) : plV h [o] = false := by
  have z1 := okV_pos ho
  have z2 := okV_pos hh
  rw [arB_iff] at ha
  have := not_both (by omega) (by omega) ha.1 ha.2 0 (by omega)
  simp only [plV, arB]; rw [this]; simp
end Go.Proofs.YthjnfjnnpabenaaGreatDoor
namespace Go.Proofs.YthjnfjnnpabenaaGreatDoor
open Go.RowKit Go.Shelf
attribute [local go_sem] Oper.semAt_some

/-- A row of slices of points: where it lies. -/
def SlcRow (n₀ : Nat) (W : World) (a : Option Addr) (len : Nat) (A : Nat → Option Addr) (L C : Nat → Nat) : Prop :=
  len = 0 ∨ ∃ b off, a = some ⟨b, off, none⟩ ∧ b < n₀ ∧ ∀ j, j < len → W.cell? ⟨b, off + j, none⟩ = some (.slice (A j) (L j) (C j))
theorem SlcRow.below {n₀ : Nat} {W W' : World} {a : Option Addr} {len : Nat} {A : Nat → Option Addr} {L C : Nat → Nat} (h : SlcRow n₀ W a len A L C) (k : Below n₀ W W') : SlcRow n₀ W' a len A L C := by
  rcases h with h | ⟨b, off, e, hb, hc⟩
  · exact .inl h
  · exact .inr ⟨b, off, e, hb, fun j hj => (k.cell (p := ⟨b, off + j, none⟩) hb).trans (hc j hj)⟩
theorem SlcRow.grow {n₀ n₁ : Nat} {W : World} {a : Option Addr} {len : Nat} {A : Nat → Option Addr} {L C : Nat → Nat} (h : SlcRow n₀ W a len A L C) (k : n₀ ≤ n₁) : SlcRow n₁ W a len A L C :=
  h.imp id fun ⟨b, off, e, hb, hc⟩ => ⟨b, off, e, by omega, hc⟩
/-- What comes up: a place, and the slice there. -/
def encB (len : Nat) (A : Nat → Option Addr) (L C : Nat → Nat) (x : Fin len) : Array Value := #[.int .i64 (x.1 : Int), .slice (A x.1) (L x.1) (C x.1)]
/-- From the last one on, so many. -/
def downto (n k : Nat) : List (Fin n) := (List.finRange n).reverse.take k
theorem downto_succ {n k : Nat} (h : k < n) : downto n (k + 1) = downto n k ++ [⟨n - 1 - k, by omega⟩] := by
  unfold downto; rw [List.take_add_one, List.getElem?_reverse (by simpa using h)]; simp
  rw [List.getElem?_eq_getElem (by simp; omega)]; simp
theorem downto_all (n : Nat) : downto n n = (List.finRange n).reverse := by
  unfold downto; exact List.take_of_length_le (by simp)
set_option maxHeartbeats 1000000 in
theorem back_in (n : Nat) (a : Option Addr) (len cap : Nat) (w : World) :
    CallsIn Fence.wide n Tryz.prog 50 #[.slice a len cap] w fun e w' => e = .returned (.func (.func 69) #[] #[.pointer (some ⟨w.heap.size, 0, none⟩)]) ∧ w' = w.alloc (.cells #[.slice a len cap] 23) := by
  refine callsIn_of_wp Tryz.func50 rfl trivial ?_ rfl
  simp only [Tryz.ntmps50, List.size_toArray, List.length_cons, List.length_nil, Nat.reduceAdd, Nat.reduceSub, Array.replicate_succ, Array.replicate_zero, List.push_toArray, List.append_toArray, List.nil_append, List.cons_append]
  gi_wp2
  go_ret
  exact ⟨rfl, rfl⟩
set_option maxRecDepth 100000 in
set_option maxHeartbeats 2000000 in
theorem back1_in (n : Nat) (hn : 1 ≤ n) (l Bs n₀ b off cap len : Nat) (A : Nat → Option Addr) (L C : Nat → Nat) (hlen : len ≤ 1048576) (hb : b < n₀) (J Jx : List (Fin len) → World → Prop)
    (hY : ∀ pre x W, J pre W → pre.length < len → YieldAt Fence.wide (n - 1) Tryz.prog l (encB len A L C x) W fun e W' =>
      (e = .returned (.bool true) ∧ J (pre ++ [x]) W' ∧ KB n₀ Bs W W') ∨ (e = .returned (.bool false) ∧ Jx (pre ++ [x]) W'))
    (W : World) (hBs : W.cell? ⟨Bs, 0, none⟩ = some (.slice (some ⟨b, off, none⟩) len cap)) (_ : n₀ ≤ W.heap.size)
    (hc : ∀ j, j < len → W.cell? ⟨b, off + j, none⟩ = some (.slice (A j) (L j) (C j))) (h0 : J [] W) :
    CallsIn Fence.wide n Tryz.prog 69 #[.func (.yield l) #[] #[], .pointer (some ⟨Bs, 0, none⟩)] W fun e W' => (∃ v, e = .returned v) ∧
      ((∃ ys, ys = (List.finRange len).reverse ∧ J ys W') ∨ (∃ pre, (∃ k, k ≤ len ∧ pre = downto len k) ∧ Jx pre W')) := by
  have hmx : Tryz.prog.follows .mixedOrders = true := by kernel_rfl
  refine callsIn_of_wp Tryz.func69 rfl trivial ?_ rfl
  simp only [Tryz.ntmps69, List.size_toArray, List.length_cons, List.length_nil, Nat.reduceAdd, Nat.reduceSub, Array.replicate_succ, Array.replicate_zero, List.push_toArray, List.append_toArray, List.nil_append, List.cons_append]
  have hq0 : IntKind.i64.wrap ((len : Int) - 1) = (len : Int) - 1 := wrap_small (by omega) (by omega)
  gi_wp2
  gi_loopw [3] (fun i wr => ∃ k : Nat, k ≤ len ∧ i = .int .i64 ((len : Int) - 1 - k) ∧ J (downto len k) wr ∧ KB n₀ Bs W wr)
    (fun i _ => (intOf i + 1).toNat)
  case atStart => exact ⟨0, Nat.zero_le _, by simp, by simpa [downto] using h0, KB.refl _ _ _⟩
  case round =>
    obtain ⟨k, hk, rfl, hJs, hkb⟩ := hrel
    have hnx := hkb.1
    by_cases hlt : k < len
    · obtain ⟨m, hm⟩ : ∃ m : Nat, len - 1 - k = m := ⟨_, rfl⟩
      have hmi : (len : Int) - 1 - k = (m : Int) := by omega
      have hmn : m < len := by omega
      rw [hmi]
      have hcx : wr.cell? ⟨b, off + m, none⟩ = some (.slice (A m) (L m) (C m)) := (hnx.cell (p := ⟨b, off + m, none⟩) hb).trans (hc m hmn)
      have hBx : wr.cell? ⟨Bs, 0, none⟩ = some (.slice (some ⟨b, off, none⟩) len cap) := (hkb.cell 0).trans hBs
      have zB : Bs < wr.heap.size := World.block_lt_of_cell? _ _ hBx
      obtain ⟨fn, tmps, assign, body, hy, hR⟩ := hY _ ⟨m, hmn⟩ _ hJs (by simp [downto]; omega)
      unfold encB at hy
      dsimp only at hy
      have hd : downto len (k + 1) = downto len k ++ [⟨m, hmn⟩] := by rw [downto_succ hlt]; simp [hm]
      have hR2 := hR.mono (R' := fun e W' => ∃ v : Bool, e = .returned (.bool v) ∧ ((v = true ∧ J (downto len k ++ [⟨m, hmn⟩]) W' ∧ KB n₀ Bs wr W') ∨ (v = false ∧ Jx (downto len k ++ [⟨m, hmn⟩]) W'))) (by
        rintro e W' (⟨rfl, h1, h2⟩ | ⟨rfl, h1⟩)
        · exact ⟨true, rfl, .inl ⟨rfl, h1, h2⟩⟩
        · exact ⟨false, rfl, .inr ⟨rfl, h1⟩⟩)
      have hq : IntKind.i64.wrap ((m : Int) - 1) = (m : Int) - 1 := wrap_small (by omega) (by omega)
      have i0 : (0 : Int) ≤ (m : Int) := Int.natCast_nonneg _
      have i1 : (m : Int) < (len : Int) := by omega
      clear hR hY hc
      gi_wp2
      refine hR2.mono ?_
      clear hR2
      rintro e W3 ⟨v, rfl, hv⟩
      rcases hv with ⟨rfl, hJ3, hk3⟩ | ⟨rfl, hJx3⟩
      all_goals gi_wp2
      all_goals first
        | (refine bodyPost_ret (results_none rfl _ _ _) rfl ?_
           exact ⟨⟨_, rfl⟩, .inr ⟨_, ⟨k + 1, by omega, hd.symm⟩, hJx3⟩⟩)
        | skip
      all_goals go_roundw
      all_goals first
        | exact ⟨k + 1, by omega, by have e : (m : Int) - 1 = (len : Int) - 1 - ((k + 1 : Nat) : Int) := (by omega); rw [e], by rw [hd]; exact hJ3, hkb.trans hk3⟩
        | (simp [intOf])
    · obtain rfl : k = len := by omega
      have hneg : ¬ (0 ≤ (k : Int) - 1 - k) := by omega
      have hneg2 : (k : Int) - 1 - k < 0 := by omega
      gi_wp2
      go_end0
      rw [downto_all] at hJs
      first
        | exact ⟨⟨_, rfl⟩, .inl ⟨_, rfl, hJs⟩⟩
        | exact ⟨⟨_, rfl⟩, .inl hJs⟩
set_option maxHeartbeats 1000000 in
/-- Nothing there, nothing comes. -/
theorem back0_in (n : Nat) (l Bs cap : Nat) (a : Option Addr) (J Jx : List (Fin 0) → World → Prop) (W : World) (hBs : W.cell? ⟨Bs, 0, none⟩ = some (.slice a 0 cap)) (h0 : J [] W) :
    CallsIn Fence.wide n Tryz.prog 69 #[.func (.yield l) #[] #[], .pointer (some ⟨Bs, 0, none⟩)] W fun e W' => (∃ v, e = .returned v) ∧
      ((∃ ys, ys = (List.finRange 0).reverse ∧ J ys W') ∨ (∃ pre, (∃ k, k ≤ 0 ∧ pre = downto 0 k) ∧ Jx pre W')) := by
  refine callsIn_of_wp Tryz.func69 rfl trivial ?_ rfl
  simp only [Tryz.ntmps69, List.size_toArray, List.length_cons, List.length_nil, Nat.reduceAdd, Nat.reduceSub, Array.replicate_succ, Array.replicate_zero, List.push_toArray, List.append_toArray, List.nil_append, List.cons_append]
  gi_wp2
  gi_loopw [3] (fun i wr => i = .int .i64 (-1) ∧ J [] wr) (fun _ _ => 0)
  case atStart => exact ⟨rfl, h0⟩
  case round =>
    obtain ⟨rfl, hJ⟩ := hrel
    gi_wp2
    go_end0
    exact ⟨⟨_, rfl⟩, .inl ⟨[], by rfl, hJ⟩⟩
theorem back_stops (n : Nat) (hn : 1 ≤ n) (B n₀ : Nat) (a : Option Addr) (len cap : Nat) (A : Nat → Option Addr) (L C : Nat → Nat) (w : World) (hB : B < w.heap.size) (hn₀ : n₀ ≤ w.heap.size) (hlen : len ≤ 1048576)
    (hc : w.cell? ⟨B, 0, none⟩ = some (.slice a len cap)) (hP : SlcRow n₀ w a len A L C) :
    SeqStopsK Fence.wide n Tryz.prog 69 #[.pointer (some ⟨B, 0, none⟩)] (encB len A L C) (KB n₀ B) (fun ys => ys = (List.finRange len).reverse) (fun pre => ∃ k, k ≤ len ∧ pre = downto len k) len w := by
  intro l J Jx W hW _ _ hY h0
  have hcW := (hW.cell (p := ⟨B, 0, none⟩) hB).trans hc
  rcases hP.below (hW.mono hn₀) with rfl | ⟨b, off, rfl, hb, hcs⟩
  · exact back0_in n l B cap a J Jx W hcW h0
  · exact back1_in n hn l B n₀ b off cap len A L C hlen hb J Jx hY W hcW (by have := hW.size; omega) hcs h0
end Go.Proofs.YthjnfjnnpabenaaGreatDoor
namespace Go.Proofs.YthjnfjnnpabenaaGreatDoor
open Go.RowKit Go.Sort

set_option maxRecDepth 100000 in
set_option maxHeartbeats 8000000 in
theorem sApart_ok (b1 off1 len1 cap1 b2 off2 len2 cap2 : Nat) (l1 l2 : List P2) (ok1 : okV l1 = true) (ok2 : okV l2 = true) (hl1 : l1.length = len1) (hl2 : l2.length = len2) (w : World) (hb1 : b1 < w.heap.size) (hb2 : b2 < w.heap.size)
    (hc1 : ∀ j, j < len1 → w.cell? ⟨b1, off1 + j * 2, none⟩ = some (.int .i64 (ptAt l1 j).1) ∧ w.cell? ⟨b1, off1 + j * 2 + 1, none⟩ = some (.int .i64 (ptAt l1 j).2))
    (hc2 : ∀ j, j < len2 → w.cell? ⟨b2, off2 + j * 2, none⟩ = some (.int .i64 (ptAt l2 j).1) ∧ w.cell? ⟨b2, off2 + j * 2 + 1, none⟩ = some (.int .i64 (ptAt l2 j).2)) :
    Calls Tryz.prog 43 #[.slice (some ⟨b1, off1, none⟩) len1 cap1, .slice (some ⟨b2, off2, none⟩) len2 cap2] w fun e w' => e = .returned (.bool (apL l1 l2)) ∧ Below w.heap.size w w' := by
  have h31 := okV_pos ok1
  have h32 := okV_pos ok2
  have S1 : Hid (∀ i, i < len1 → sgP (ptAt l1 i) (ptAt l1 (nxt l1 i)) = true) := fun i hi => ((okV_iff l1).1 ok1).seg i (by omega)
  have S2 : Hid (∀ i, i < len2 → sgP (ptAt l2 i) (ptAt l2 (nxt l2 i)) = true) := fun i hi => ((okV_iff l2).1 ok2).seg i (by omega)
  have L1 : Hid (l1.length = len1) := hl1
  have L2 : Hid (l2.length = len2) := hl2
  have b1l : 3 ≤ len1 ∧ len1 ≤ 8 := by omega
  have b2l : 3 ≤ len2 ∧ len2 ≤ 8 := by omega
  clear ok1 ok2 h31 h32 hl1 hl2
  go_enter Tryz.func43, Tryz.ntmps43
  go_wp2_with fail
  refine (sEdges_ok b1 off1 len1 cap1 l1 w L1 (by omega) (by omega) hb1 hc1).mono ?_
  rintro e w1 ⟨v1, rfl, hown1, J1⟩
  have hR : ∃ g cap', v1 = .slice (some ⟨g, 0, none⟩) len1 cap' ∧ g < w1.heap.size ∧ SegRow w1 g len1 l1 := by
    have hown' := hown1
    rcases hown1.2 with ⟨_, h0⟩ | ⟨g, cap', cur, rfl, hg1, hg2, _⟩
    · omega
    · exact ⟨g, cap', rfl, (Array.getElem?_eq_some_iff.1 hg2).1, SegRow.of_owns hown'⟩
  obtain ⟨g1, c1, rfl, hg1, R1⟩ := hR
  clear hown1
  go_wp2_with fail
  refine (sEdges_ok b2 off2 len2 cap2 l2 w1 L2 (by omega) (by omega) (by have := J1.size; omega) (fun j hj => ⟨(J1.cell (p := ⟨b2, off2 + j * 2, none⟩) hb2).trans (hc2 j hj).1, (J1.cell (p := ⟨b2, off2 + j * 2 + 1, none⟩) hb2).trans (hc2 j hj).2⟩)).mono ?_
  rintro e w2 ⟨v2, rfl, hown2, J2⟩
  have hR : ∃ g cap', v2 = .slice (some ⟨g, 0, none⟩) len2 cap' ∧ g < w2.heap.size ∧ SegRow w2 g len2 l2 := by
    have hown' := hown2
    rcases hown2.2 with ⟨_, h0⟩ | ⟨g, cap', cur, rfl, hg1, hg2, _⟩
    · omega
    · exact ⟨g, cap', rfl, (Array.getElem?_eq_some_iff.1 hg2).1, SegRow.of_owns hown'⟩
  obtain ⟨g2, c2, rfl, hg2, R2⟩ := hR
  replace R1 := R1.below J2 hg1
  have hg1' : g1 < w2.heap.size := by have := J2.size; omega
  have K2 := bw_trans J1 J2
  clear hown2 J1 J2 hc1 hc2
  go_wp2_with fail
  go_loopw [7] (fun i wr => ∃ k : Nat, k ≤ len1 ∧ i = .int .i64 k ∧ (∀ j, j < k → ∀ q, q < len2 → meetP (ptAt l1 j) (ptAt l1 (nxt l1 j)) (ptAt l2 q) (ptAt l2 (nxt l2 q)) = false) ∧ Below w2.heap.size w2 wr) (fun i _ => len1 - (intOf i).toNat)
  case atStart => exact ⟨0, Nat.zero_le _, rfl, fun j hj => by omega, bw_refl _⟩
  case round =>
    obtain ⟨i, hi, rfl, hall, hnx⟩ := hrel
    by_cases hlt : i < len1
    case neg =>
      obtain rfl : i = len1 := by omega
      have e1 : Hid (apL l1 l2 = true) := (apL_iff l1 l2).2 (fun j hj q hq => hall j (by rw [L1.out] at hj; exact hj) q (by rw [L2.out] at hq; exact hq))
      clear hall
      go_wp2_with fail
      go_ret
      exact ⟨ret_bool e1.out.symm, bw_trans K2 hnx⟩
    case pos =>
      have si := S1.out i hlt
      go_wp2_with fail
      go_loopw [8] (fun k wr => ∃ k' : Nat, k' ≤ len2 ∧ k = .int .i64 k' ∧ (∀ q, q < k' → meetP (ptAt l1 i) (ptAt l1 (nxt l1 i)) (ptAt l2 q) (ptAt l2 (nxt l2 q)) = false) ∧ Below w2.heap.size w2 wr) (fun k _ => len2 - (intOf k).toNat)
      case atStart => exact ⟨0, Nat.zero_le _, rfl, fun j hj => by omega, hnx⟩
      case round =>
        obtain ⟨k, hk, rfl, hrow, hny⟩ := hrel
        by_cases hlt2 : k < len2
        case neg =>
          obtain rfl : k = len2 := by omega
          go_wp2_with fail
          go_roundw
          case rel => exact ⟨i + 1, by omega, by simp, fun j hj q hq => by rcases Nat.lt_or_ge j i with h | h; exact hall j h q hq; obtain rfl : j = i := (by omega); exact hrow q hq, hny⟩
          case measure => simp [intOf]; omega
        case pos =>
          have sk := S2.out k hlt2
          have i0 : (0 : Int) ≤ (i : Int) := Int.natCast_nonneg _
          have i1 : (i : Int) < (len1 : Int) := by omega
          have j0 : (0 : Int) ≤ (k : Int) := Int.natCast_nonneg _
          have j1 : (k : Int) < (len2 : Int) := by omega
          obtain ⟨d0, d1, d2, d3⟩ := regrow4 ((R1.below hny hg1') i hlt)
          obtain ⟨f0, f1, f2, f3⟩ := regrow4 ((R2.below hny hg2) k hlt2)
          cases hme : meetP (ptAt l1 i) (ptAt l1 (nxt l1 i)) (ptAt l2 k) (ptAt l2 (nxt l2 k))
          · have X1 : Hid (∀ w, Calls Tryz.prog 63 #[.agg #[.int .i64 (ptAt l1 i).1, .int .i64 (ptAt l1 i).2, .int .i64 (ptAt l1 (nxt l1 i)).1, .int .i64 (ptAt l1 (nxt l1 i)).2], .agg #[.int .i64 (ptAt l2 k).1, .int .i64 (ptAt l2 k).2, .int .i64 (ptAt l2 (nxt l2 k)).1, .int .i64 (ptAt l2 (nxt l2 k)).2]] w fun e w' => e = .returned (.bool false) ∧ Below w.heap.size w w') := fun w => by
              have := sMeet_raw _ _ _ _ si sk w; rwa [hme] at this
            have hrow' : Hid (∀ q, q < k + 1 → meetP (ptAt l1 i) (ptAt l1 (nxt l1 i)) (ptAt l2 q) (ptAt l2 (nxt l2 q)) = false) := fun q hq => by rcases Nat.lt_or_ge q k with h | h; exact hrow q h; obtain rfl : q = k := (by omega); exact hme
            clear hrow hme
            go_wp2_with fail
            refine wp_region_quiet_below (by kernel_rfl) (by kernel_rfl) ?_
            repeat (first | go_big_quiet_step (first | (go_at_call 63; with_reducible exact Calls.regrown_of (X1.out _))))
            refine wpQuiet_nil ?_
            intro _ hw'
            obtain ⟨⟨dq, osq⟩, hw''⟩ := hw'
            subst hw''
            have J := below_regrown wr dq osq
            generalize grow (redrawn wr dq) osq = w5 at J ⊢
            go_wp2_with fail
            go_roundw
            case rel => exact ⟨k + 1, by omega, by simp, hrow'.out, bw_trans hny J⟩
            case measure => simp [intOf]; omega
          · have X1 : Hid (∀ w, Calls Tryz.prog 63 #[.agg #[.int .i64 (ptAt l1 i).1, .int .i64 (ptAt l1 i).2, .int .i64 (ptAt l1 (nxt l1 i)).1, .int .i64 (ptAt l1 (nxt l1 i)).2], .agg #[.int .i64 (ptAt l2 k).1, .int .i64 (ptAt l2 k).2, .int .i64 (ptAt l2 (nxt l2 k)).1, .int .i64 (ptAt l2 (nxt l2 k)).2]] w fun e w' => e = .returned (.bool true) ∧ Below w.heap.size w w') := fun w => by
              have := sMeet_raw _ _ _ _ si sk w; rwa [hme] at this
            have e1 : Hid (apL l1 l2 = false) := by
              change _ = _
              rw [Bool.eq_false_iff]; intro h
              rw [(apL_iff l1 l2).1 h i (by rw [L1.out]; exact hlt) k (by rw [L2.out]; exact hlt2)] at hme; cases hme
            clear hrow hme hall
            go_wp2_with fail
            refine wp_region_quiet_below (by kernel_rfl) (by kernel_rfl) ?_
            repeat (first | go_big_quiet_step (first | (go_at_call 63; with_reducible exact Calls.regrown_of (X1.out _))))
            refine wpQuiet_nil ?_
            intro _ hw'
            obtain ⟨⟨dq, osq⟩, hw''⟩ := hw'
            subst hw''
            have J := below_regrown wr dq osq
            generalize grow (redrawn wr dq) osq = w5 at J ⊢
            go_wp2_with fail
            go_ret
            exact ⟨ret_bool e1.out.symm, bw_trans (bw_trans K2 hny) J⟩
end Go.Proofs.YthjnfjnnpabenaaGreatDoor
namespace Go.Proofs.YthjnfjnnpabenaaGreatDoor
open Go.RowKit Go.Shelf Go.Sort
attribute [local go_sem] Oper.semAt_some

theorem fin_map' {β : Type} (n : Nat) (f : Nat → β) : ((List.finRange n).map fun k => f k.1) = (List.range n).map f := by
  apply List.ext_getElem
  · simp
  · intro i h1 h2; simp
/-- Where one is behind edges that pass, or not. -/
def whereL (l : List Bool) : Int := l.foldl (fun s b => if b then -s else s) (-1)
theorem whereL_snoc (l : List Bool) (b : Bool) : whereL (l ++ [b]) = if b then - whereL l else whereL l := by unfold whereL; rw [List.foldl_append]; rfl
theorem whereL_range (pts : List P2) (p : P2) (n : Nat) : whereL ((List.range n).map (passE pts p)) = whereK pts p n := by
  induction n with
  | zero => rfl
  | succ n ih => rw [List.range_succ, List.map_append, List.map_cons, List.map_nil, whereL_snoc, ih]; rfl
theorem foldl_pm (l : List Bool) : ∀ s : Int, (s = -1 ∨ s = 1) → (l.foldl (fun s b => if b then -s else s) s = -1 ∨ l.foldl (fun s b => if b then -s else s) s = 1) := by
  induction l with
  | nil => intro s h; exact h
  | cons b l ih => intro s h; rw [List.foldl_cons]; apply ih; cases b <;> simp <;> omega
theorem whereL_pm (l : List Bool) : whereL l = -1 ∨ whereL l = 1 := foldl_pm l (-1) (.inl rfl)
theorem okV_seg' {pts : List P2} (h : okV pts = true) {i : Nat} (hi : i < pts.length) : sgP (ptAt pts i) (ptAt pts (nxt pts i)) = true := ((okV_iff pts).1 h).seg i hi
theorem inI_on' {pts : List P2} {p : P2} {i : Nat} (hi : i < pts.length) (h : onE pts p i = true) : inI pts p = 0 := by
  unfold inI; rw [if_pos]; rw [List.any_eq_true]; exact ⟨i, List.mem_range.2 hi, h⟩
theorem inI_off' {pts : List P2} {p : P2} (h : ∀ k ∈ List.finRange pts.length, onE pts p k.1 = false) : inI pts p = whereK pts p pts.length := by
  unfold inI; rw [if_neg]; rw [List.any_eq_true]; rintro ⟨i, hi, e⟩; rw [h ⟨i, List.mem_range.1 hi⟩ (List.mem_finRange _)] at e; cases e
theorem pt_raw (p : P2) (w : World) : Calls Tryz.prog 77 #[.agg #[.int .i64 p.1, .int .i64 p.2]] w fun e w' => e = .returned (.bool (ptB p.1 p.2)) ∧ Below w.heap.size w w' := ptOk_any _ _ w
set_option maxRecDepth 100000 in
set_option maxHeartbeats 4000000 in
theorem where_in (n : Nat) (hn : 8 ≤ n) (a : Option Addr) (len cap : Nat) (pts : List P2) (p : P2) (hlen : len ≤ 1048576) (hok : okV pts = true) (hp : ptB p.1 p.2 = true) (w : World) (hP : Pts w.heap.size w a len pts) :
    CallsIn Fence.wide n Tryz.prog 87 #[.slice a len cap, .agg #[.int .i64 p.1, .int .i64 p.2]] w fun e W' => e = .returned (.int .i64 (inI pts p)) ∧ Below w.heap.size w W' := by
  have h1 : 1 ≤ n := by omega
  have hl := hP.1
  have hmx : Tryz.prog.follows .mixedOrders = true := by kernel_rfl
  refine callsIn_of_wp_marks Tryz.func87 rfl trivial ?_ rfl
  simp only [Tryz.ntmps87, List.size_toArray, List.length_cons, List.length_nil, Nat.reduceAdd, Nat.reduceSub, Array.replicate_succ, Array.replicate_zero, List.push_toArray, List.append_toArray, List.nil_append, List.cons_append]
  gi_wp2_with (refine ⟨trivial, ?_⟩; gi_at_call 57; refine (edges_in (n - 1) _ _ _ _).mono ?_; rintro e w' ⟨rfl, rfl⟩)
  have Q0 := (((Lies.new' w (w.heap.size) (by simp) #[.int .i64 p.1, .int .i64 p.2] 73).alloc (.cells #[.int .i64 0] 3)).alloc (.cells #[.int .i64 (-1)] 3)).alloc (.cells #[.slice a len cap] 22)
  have Q1 := ((Lies.new' (w.alloc (.cells #[.int .i64 p.1, .int .i64 p.2] 73)) (w.heap.size + 1) (by simp) #[.int .i64 0] 3).alloc (.cells #[.int .i64 (-1)] 3)).alloc (.cells #[.slice a len cap] 22)
  have L0 := (Lies.new' ((w.alloc (.cells #[.int .i64 p.1, .int .i64 p.2] 73)).alloc (.cells #[.int .i64 0] 3)) (w.heap.size + 1 + 1) (by simp) #[.int .i64 (-1)] 3).alloc (.cells #[.slice a len cap] 22)
  have L1 := Lies.new' (((w.alloc (.cells #[.int .i64 p.1, .int .i64 p.2] 73)).alloc (.cells #[.int .i64 0] 3)).alloc (.cells #[.int .i64 (-1)] 3)) (w.heap.size + 1 + 1 + 1) (by simp) #[.slice a len cap] 22
  have hB0 : Below w.heap.size w ((((w.alloc (.cells #[.int .i64 p.1, .int .i64 p.2] 73)).alloc (.cells #[.int .i64 0] 3)).alloc (.cells #[.int .i64 (-1)] 3)).alloc (.cells #[.slice a len cap] 22)) := (by repeat (first | exact bw_refl _ | assumption | apply bw_drewN | apply bw_drew | apply bw_alloc | refine bw_set ?_ (by simp) _))
  have hsz : (((((w.alloc (.cells #[.int .i64 p.1, .int .i64 p.2] 73)).alloc (.cells #[.int .i64 0] 3)).alloc (.cells #[.int .i64 (-1)] 3)).alloc (.cells #[.slice a len cap] 22))).heap.size = w.heap.size + 4 := by simp
  obtain ⟨W0, hW0⟩ : ∃ W0, ((((w.alloc (.cells #[.int .i64 p.1, .int .i64 p.2] 73)).alloc (.cells #[.int .i64 0] 3)).alloc (.cells #[.int .i64 (-1)] 3)).alloc (.cells #[.slice a len cap] 22)) = W0 := ⟨_, rfl⟩
  rw [hW0] at Q0 Q1 L0 L1 hB0 hsz ⊢
  clear hW0
  have hst := edges_stops (n - 1) (by omega) (w.heap.size + 1 + 1 + 1) w.heap.size a len cap pts W0 (by omega) (by omega) hlen L1.c1 (hP.below hB0)
  refine wpIn_rangeFunc_ownH rfl h1 (gf := 76) (lb := #[.pointer (some ⟨w.heap.size + 1 + 1 + 1, 0, none⟩)]) rfl trivial (enters_of Tryz.func76 (by kernel_rfl) rfl)
    hst KB_t (KB_b (by omega) (by omega)) (Below.refl _ _) (fun _ => rfl)
    (fun pre W => ((∀ k ∈ pre, onE pts p k.1 = false) ∧ Lies w.heap.size #[.int .i64 p.1, .int .i64 p.2] 73 W ∧ Lies (w.heap.size + 1) #[.int .i64 0] 3 W ∧ Lies (w.heap.size + 1 + 1) #[.int .i64 (whereL (pre.map fun k => passE pts p k.1))] 3 W ∧ Lies (w.heap.size + 1 + 1 + 1) #[.slice a len cap] 22 W) ∧ Below w.heap.size w W)
    (fun c pre W => ((c = .ret ∧ ∃ k ∈ pre, onE pts p k.1 = true) ∧ Lies (w.heap.size + 1) #[.int .i64 0] 3 W) ∧ Below w.heap.size w W)
    (OwnFrom.and (OwnFrom.and (ownFrom_pure _ _) (OwnFrom.and (lies_from _ _ _ _) (OwnFrom.and (lies_from _ _ _ _) (OwnFrom.and (Own.from (liesF_own _ _ _) _) (lies_from _ _ _ _))))) (ownFrom_below (Nat.le_refl _) (by omega)))
    (fun c => OwnFrom.and (OwnFrom.and (ownFrom_pure _ _) (lies_from _ _ _ _)) (ownFrom_below (Nat.le_refl _) (by omega)))
    ⟨⟨by simp, Q0, Q1, L0, L1⟩, hB0⟩
    (fun x a' W => ∃ Bx, w.heap.size + 1 + 1 + 1 < Bx ∧ Lies Bx #[.int .i64 (ptAt pts x.1).1, .int .i64 (ptAt pts x.1).2, .int .i64 (ptAt pts (nxt pts x.1)).1, .int .i64 (ptAt pts (nxt pts x.1)).2] 93 W ∧ a' = { tmps := #[.slice a len cap, .agg #[.int .i64 p.1, .int .i64 p.2], undef, .pointer (some ⟨w.heap.size, 0, none⟩), .pointer (some ⟨w.heap.size + 1, 0, none⟩), .pointer (some ⟨w.heap.size + 1 + 1, 0, none⟩), undef, .pointer (some ⟨Bx, 0, none⟩), .slice a len cap, .func (.func 76) #[] #[.pointer (some ⟨w.heap.size + 1 + 1 + 1, 0, none⟩)], .int .i64 (x.1 : Int), .agg #[.int .i64 (ptAt pts x.1).1, .int .i64 (ptAt pts x.1).2, .int .i64 (ptAt pts (nxt pts x.1)).1, .int .i64 (ptAt pts (nxt pts x.1)).2], undef, undef, undef, undef, undef, undef, undef, undef, undef], defers := [] })
    (fun x a' _ X Y row hs hg hr => by obtain ⟨Bx, e1, e2, e3⟩ := hs; exact ⟨Bx, e1, lies_own (β := Unit) Bx _ _ () X Y row e2 hg (fun r e => (hr r e).2), e3⟩)
    ?assign ?body ?done ?stop
  case assign =>
    rintro l pre x W K ⟨⟨ho, M0, M1, M2, M3⟩, hB1⟩ hK
    unfold encE
    gi_wp2
    exact hK _ _ ((KeepsOthers.alloc _ _).from _) ((KB.refl _ _ W).alloc hB1.size M3.lt _) ⟨⟨ho, M0.alloc _, M1.alloc _, M2.alloc _, M3.alloc _⟩, hB1.alloc hB1.size _⟩ ⟨W.heap.size, M3.lt, Lies.new W _ _, rfl⟩
  case body =>
    rintro l pre x a' W hl2 ⟨r, hr⟩ ⟨⟨ho, M0, M1, M2, M3⟩, hB1⟩ ⟨Bx, hBx, bX, rfl⟩ hlt
    obtain ⟨k, hk⟩ := x
    dsimp only at *
    have sk := okV_seg' hok hk
    obtain ⟨pa, pb⟩ := sgP_pt sk
    have hB1z := hB1.size
    obtain ⟨c00, c01⟩ := blk_2 M0
    have c1 := M1.c1
    have f1 := M1.f1
    obtain ⟨cx0, cx1, cx2, cx3⟩ := bX.c4
    have h1' : 1 ≤ n - 1 - 1 := by omega
    have hpm := whereL_pm (pre.map fun k => passE pts p k.1)
    have hsn : Hid (∀ b, passE pts p k = b → whereL ((pre ++ [(⟨k, hk⟩ : Fin pts.length)]).map fun q => passE pts p q.1) = if b then - whereL (pre.map fun q => passE pts p q.1) else whereL (pre.map fun q => passE pts p q.1)) := by
      intro b hb; rw [List.map_append, List.map_cons, List.map_nil, whereL_snoc, hb]
    generalize whereL (pre.map fun q => passE pts p q.1) = u at hpm hsn M2
    have nu : IntKind.i64.wrap (-u) = -u := wrap_small (by omega) (by omega)
    have HX : Hid (∀ w, Calls Tryz.prog 91 #[.agg #[.int .i64 (ptAt pts k).1, .int .i64 (ptAt pts k).2, .int .i64 (ptAt pts (nxt pts k)).1, .int .i64 (ptAt pts (nxt pts k)).2], .agg #[.int .i64 p.1, .int .i64 p.2]] w fun e w' => e = .returned (.bool (onE pts p k)) ∧ Below w.heap.size w w') := fun w => by
      have := has_raw (ptAt pts k) (ptAt pts (nxt pts k)) p w; rwa [hasQ_of sk hp] at this
    have PX : Hid (∀ w, Calls Tryz.prog 102 #[.agg #[.int .i64 (ptAt pts k).1, .int .i64 (ptAt pts k).2, .int .i64 (ptAt pts (nxt pts k)).1, .int .i64 (ptAt pts (nxt pts k)).2], .agg #[.int .i64 p.1, .int .i64 p.2]] w fun e w' => e = .returned (.bool (passE pts p k)) ∧ Below w.heap.size w w') := fun w => pass_ok _ _ p pa pb hp w
    cases hon : onE pts p k
    · cases hpa : passE pts p k
      · gi_wp2_with (refine ⟨trivial, ?_⟩; gi_at_call 91; refine (CallsIn.inRound l (callsIn_wide.2 (HX.out _))).mono ?_; rw [hon]; rintro e w2 ⟨rfl, J⟩; obtain ⟨c00', c01'⟩ := blk_2 (M0.below J); obtain ⟨cx0', cx1', cx2', cx3'⟩ := (bX.below J).c4)
        refine ⟨trivial, ?_⟩
        gi_at_call 102
        refine (CallsIn.inRound l (callsIn_wide.2 (PX.out _))).mono ?_
        rw [hpa]
        rintro e w3 ⟨rfl, J3⟩
        have JJ := bw_trans J J3
        gi_wp2
        exact ⟨(KeepsOthers.of_below JJ).from _, KB.of_below JJ hB1.size M3.lt, ⟨fun q hq => (List.mem_append.1 hq).elim (ho q) (fun e => by simp at e; rw [e]; exact hon), M0.below JJ, M1.below JJ, (by have := hsn.out _ hpa; simp only [Bool.false_eq_true, if_false] at this; rw [this]; exact M2.below JJ), M3.below JJ⟩, bw_trans hB1 JJ⟩
      · gi_wp2_with (refine ⟨trivial, ?_⟩; gi_at_call 91; refine (CallsIn.inRound l (callsIn_wide.2 (HX.out _))).mono ?_; rw [hon]; rintro e w2 ⟨rfl, J⟩; obtain ⟨c00', c01'⟩ := blk_2 (M0.below J); obtain ⟨cx0', cx1', cx2', cx3'⟩ := (bX.below J).c4)
        refine ⟨trivial, ?_⟩
        gi_at_call 102
        refine (CallsIn.inRound l (callsIn_wide.2 (PX.out _))).mono ?_
        rw [hpa]
        rintro e w3 ⟨rfl, J3⟩
        have JJ := bw_trans J J3
        have c2 := (M2.below JJ).c1
        have f2 := (M2.below JJ).f1
        gi_wp2
        exact ⟨((KeepsOthers.of_below JJ).trans (KeepsOthers.setCell _ _ _)).from _, (KB.of_below JJ hB1.size M3.lt).setCell (by simp; omega) (by simp) _, ⟨fun q hq => (List.mem_append.1 hq).elim (ho q) (fun e => by simp at e; rw [e]; exact hon), (M0.below JJ).other (by omega) _, (M1.below JJ).other (by omega) _, (by have := hsn.out _ hpa; simp only [if_true] at this; rw [this]; exact (M2.below JJ).set1 _), (M3.below JJ).other (by omega) _⟩, bw_set (bw_trans hB1 JJ) (by simp; omega) _⟩
    · gi_wp2_with (refine ⟨trivial, ?_⟩; gi_at_call 91; refine (CallsIn.inRound l (callsIn_wide.2 (HX.out _))).mono ?_; rw [hon]; rintro e w2 ⟨rfl, J⟩; have c1' := (M1.below J).c1; have f1' := (M1.below J).f1)
      exact ⟨((KeepsOthers.of_below J).trans (KeepsOthers.setCell _ _ _)).from _, ⟨⟨rfl, ⟨k, hk⟩, List.mem_append.2 (.inr (by simp)), hon⟩, (M1.below J).set1 _⟩, bw_set (bw_trans hB1 J) (by simp) _⟩
  case done =>
    rintro D zs W hD rfl ⟨⟨ho, M0, M1, M2, M3⟩, hB1⟩ hK
    obtain ⟨u, hu⟩ : ∃ u, whereL ((List.finRange pts.length).map fun k => passE pts p k.1) = u := ⟨_, rfl⟩
    rw [hu] at M2
    have HU : Hid (inI pts p = u) := by change _ = _; rw [inI_off' ho, ← hu, fin_map', whereL_range]
    clear hu ho
    have cR := M1.c1
    have fR := M1.f1
    have c2 := M2.c1
    gi_wp2
    have hK' := (KeepsOthers.setCell W ⟨w.heap.size + 1, 0, none⟩ (.int .i64 u)).same D _ hK rfl
    refine ⟨by simp, .inl ⟨_, _, rfl, run_takeDeferred hK', ?_⟩⟩
    have hc5 := ((M1.set1 (.int .i64 u)).put (.deferred none) hK' rfl).c1
    refine ⟨.int .i64 u, ?_, ?_, (hB1.setCell (p := ⟨w.heap.size + 1, 0, none⟩) (by simp) _).trans (belowK_b (w := w) (Nat.le_refl _) _ D _ _ (by omega) hK' rfl rfl)⟩
    · simp [results, Tryz.f87, go_sem, hc5]
    · rw [HU.out]
  case stop =>
    rintro D c pre W hD hpre ⟨⟨⟨rfl, x, hx, hy⟩, M1⟩, hB1⟩ hK
    gi_wp2
    refine ⟨by simp, .inl ⟨_, _, rfl, run_takeDeferred hK, ?_⟩⟩
    have hc5 := (M1.put (.deferred none) hK rfl).c1
    refine ⟨.int .i64 0, ?_, ?_, hB1.trans (belowK_b (w := w) (Nat.le_refl _) _ D _ _ (by omega) hK rfl rfl)⟩
    · simp [results, Tryz.f87, go_sem, hc5]
    · rw [inI_on' x.2 hy]
/-- whereIn. -/
theorem where_any (a : Option Addr) (len cap : Nat) (pts : List P2) (p : P2) (hlen : len ≤ 1048576) (hok : okV pts = true) (hp : ptB p.1 p.2 = true) (w : World) (hP : Pts w.heap.size w a len pts) :
    Calls Tryz.prog 87 #[.slice a len cap, .agg #[.int .i64 p.1, .int .i64 p.2]] w fun e W' => e = .returned (.int .i64 (inI pts p)) ∧ Below w.heap.size w W' :=
  callsIn_wide.1 (where_in 8 (Nat.le_refl _) a len cap pts p hlen hok hp w hP)
end Go.Proofs.YthjnfjnnpabenaaGreatDoor
namespace Go.Proofs.YthjnfjnnpabenaaGreatDoor
open Go.RowKit Go.Shelf Go.Sort
attribute [local go_sem] Oper.semAt_some

theorem kb_from {β : Type} {n₀ B base : Nat} {W : World} (hn : n₀ ≤ W.heap.size) (hb : n₀ ≤ base) (hB : B < W.heap.size) (hBb : B < base) : OwnFrom base (fun (_ : β) W' => KB n₀ B W W') :=
  fun s X Y row hs hg hr => ⟨ownFrom_below (β := β) hn hb s X Y row hs.1 hg hr, (hg.block B (Nat.lt_of_lt_of_le hB hs.1.size) (fun e => by have := (hr B e.symm).1; omega)).trans hs.2⟩
/-- The edges at two places meet. -/
def meetX (l1 l2 : List P2) (i k : Nat) : Bool := meetP (ptAt l1 i) (ptAt l1 (nxt l1 i)) (ptAt l2 k) (ptAt l2 (nxt l2 k))
theorem apL_none {l1 l2 : List P2} (h : ∀ x ∈ List.finRange l1.length, ∀ y ∈ List.finRange l2.length, meetX l1 l2 x.1 y.1 = false) : apL l1 l2 = true :=
  (apL_iff l1 l2).2 fun i hi k hk => h ⟨i, hi⟩ (List.mem_finRange _) ⟨k, hk⟩ (List.mem_finRange _)
theorem apL_some {l1 l2 : List P2} (x : Fin l1.length) (y : Fin l2.length) (h : meetX l1 l2 x.1 y.1 = true) : apL l1 l2 = false := by
  rw [Bool.eq_false_iff]; intro hc
  have := (apL_iff l1 l2).1 hc x.1 x.2 y.1 y.2
  unfold meetX at h; rw [h] at this; cases this
set_option maxRecDepth 100000 in
set_option maxHeartbeats 4000000 in
theorem meets_in (n : Nat) (hn : 10 ≤ n) (B1 B2 : Nat) (a1 a2 : Option Addr) (len1 cap1 len2 cap2 : Nat) (l1 l2 : List P2) (hl1 : len1 ≤ 1048576) (hl2 : len2 ≤ 1048576) (ok1 : okV l1 = true) (ok2 : okV l2 = true) (w : World)
    (c1 : w.cell? ⟨B1, 0, none⟩ = some (.slice a1 len1 cap1)) (c2 : w.cell? ⟨B2, 0, none⟩ = some (.slice a2 len2 cap2)) (hP1 : Pts w.heap.size w a1 len1 l1) (hP2 : Pts w.heap.size w a2 len2 l2) :
    CallsIn Fence.wide n Tryz.prog 86 #[.pointer (some ⟨B1, 0, none⟩), .pointer (some ⟨B2, 0, none⟩)] w fun e W' => e = .returned (.bool (!apL l1 l2)) ∧ Below w.heap.size w W' := by
  have h1 : 1 ≤ n := by omega
  have z1 : B1 < w.heap.size := World.block_lt_of_cell? _ _ c1
  have z2 : B2 < w.heap.size := World.block_lt_of_cell? _ _ c2
  refine callsIn_of_wp_marks Tryz.func86 rfl trivial ?_ rfl
  simp only [Tryz.ntmps86, List.size_toArray, List.length_cons, List.length_nil, Nat.reduceAdd, Nat.reduceSub, Array.replicate_succ, Array.replicate_zero, List.push_toArray, List.append_toArray, List.nil_append, List.cons_append]
  gi_wp2_with (refine ⟨trivial, ?_⟩; gi_at_call 57; refine (edges_in (n - 1) _ _ _ _).mono ?_; rintro e w' ⟨rfl, rfl⟩)
  have L0 := ((Lies.new' w (w.heap.size) (by simp) #[.pointer (some ⟨B2, 0, none⟩)] 57).alloc (.cells #[.bool false] 4)).alloc (.cells #[.slice a1 len1 cap1] 22)
  have L1 := (Lies.new' (w.alloc (.cells #[.pointer (some ⟨B2, 0, none⟩)] 57)) (w.heap.size + 1) (by simp) #[.bool false] 4).alloc (.cells #[.slice a1 len1 cap1] 22)
  have L2 := Lies.new' ((w.alloc (.cells #[.pointer (some ⟨B2, 0, none⟩)] 57)).alloc (.cells #[.bool false] 4)) (w.heap.size + 1 + 1) (by simp) #[.slice a1 len1 cap1] 22
  have hB0 : Below w.heap.size w (((w.alloc (.cells #[.pointer (some ⟨B2, 0, none⟩)] 57)).alloc (.cells #[.bool false] 4)).alloc (.cells #[.slice a1 len1 cap1] 22)) := (by repeat (first | exact bw_refl _ | assumption | apply bw_drewN | apply bw_drew | apply bw_alloc | refine bw_set ?_ (by simp) _))
  have hsz : ((((w.alloc (.cells #[.pointer (some ⟨B2, 0, none⟩)] 57)).alloc (.cells #[.bool false] 4)).alloc (.cells #[.slice a1 len1 cap1] 22))).heap.size = w.heap.size + 3 := by simp
  obtain ⟨W0, hW0⟩ : ∃ W0, (((w.alloc (.cells #[.pointer (some ⟨B2, 0, none⟩)] 57)).alloc (.cells #[.bool false] 4)).alloc (.cells #[.slice a1 len1 cap1] 22)) = W0 := ⟨_, rfl⟩
  rw [hW0] at L0 L1 L2 hB0 hsz ⊢
  clear hW0
  have hst := edges_stops (n - 1) (by omega) (w.heap.size + 1 + 1) w.heap.size a1 len1 cap1 l1 W0 (by omega) (by omega) hl1 L2.c1 (hP1.below hB0)
  refine wpIn_rangeFunc_ownH rfl h1 (gf := 76) (lb := #[.pointer (some ⟨w.heap.size + 1 + 1, 0, none⟩)]) rfl trivial (enters_of Tryz.func76 (by kernel_rfl) rfl)
    hst KB_t (KB_b (by omega) (by omega)) (Below.refl _ _) (fun _ => rfl)
    (fun pre W => ((∀ x ∈ pre, ∀ y ∈ List.finRange l2.length, meetX l1 l2 x.1 y.1 = false) ∧ Lies (w.heap.size) #[.pointer (some ⟨B2, 0, none⟩)] 57 W ∧ Lies (w.heap.size + 1) #[.bool false] 4 W ∧ Lies (w.heap.size + 1 + 1) #[.slice a1 len1 cap1] 22 W) ∧ Below w.heap.size w W)
    (fun c pre W => ((c = .ret ∧ ∃ x ∈ pre, ∃ y : Fin l2.length, meetX l1 l2 x.1 y.1 = true) ∧ Lies (w.heap.size + 1) #[.bool true] 4 W) ∧ Below w.heap.size w W)
    (OwnFrom.and (OwnFrom.and (ownFrom_pure _ _) (OwnFrom.and (lies_from _ _ _ _) (OwnFrom.and (lies_from _ _ _ _) (lies_from _ _ _ _)))) (ownFrom_below (Nat.le_refl _) (by omega)))
    (fun c => OwnFrom.and (OwnFrom.and (ownFrom_pure _ _) (lies_from _ _ _ _)) (ownFrom_below (Nat.le_refl _) (by omega)))
    ⟨⟨by simp, L0, L1, L2⟩, hB0⟩
    (fun x a' W => ∃ Bx, w.heap.size + 1 + 1 < Bx ∧ Lies Bx #[.int .i64 (ptAt l1 x.1).1, .int .i64 (ptAt l1 x.1).2, .int .i64 (ptAt l1 (nxt l1 x.1)).1, .int .i64 (ptAt l1 (nxt l1 x.1)).2] 93 W ∧ a' = { tmps := #[.pointer (some ⟨B1, 0, none⟩), .pointer (some ⟨B2, 0, none⟩), undef, .pointer (some ⟨w.heap.size, 0, none⟩), .pointer (some ⟨w.heap.size + 1, 0, none⟩), undef, .pointer (some ⟨Bx, 0, none⟩), undef, undef, .pointer (some ⟨B1, 0, none⟩), .pointer (some ⟨B1, 0, none⟩), .pointer (some ⟨B1, 0, none⟩), .slice a1 len1 cap1, .func (.func 76) #[] #[.pointer (some ⟨w.heap.size + 1 + 1, 0, none⟩)], .int .i64 (x.1 : Int), .agg #[.int .i64 (ptAt l1 x.1).1, .int .i64 (ptAt l1 x.1).2, .int .i64 (ptAt l1 (nxt l1 x.1)).1, .int .i64 (ptAt l1 (nxt l1 x.1)).2], undef, undef, undef, undef, undef, undef, undef, undef, undef, undef], defers := [] })
    (fun x a' _ X Y row hs hg hr => by obtain ⟨Bx, e1, e2, e3⟩ := hs; exact ⟨Bx, e1, lies_own (β := Unit) Bx _ _ () X Y row e2 hg (fun r e => (hr r e).2), e3⟩)
    ?assign ?body ?done ?stop
  case assign =>
    rintro l pre x W K ⟨⟨hp, M0, M1, M2⟩, hB1⟩ hK
    unfold encE
    gi_wp2
    exact hK _ _ ((KeepsOthers.alloc _ _).from _) ((KB.refl _ _ W).alloc hB1.size M2.lt _) ⟨⟨hp, M0.alloc _, M1.alloc _, M2.alloc _⟩, hB1.alloc hB1.size _⟩ ⟨W.heap.size, M2.lt, Lies.new W _ _, rfl⟩
  case body =>
    rintro l pre x a' W hl ⟨r, hr⟩ ⟨⟨hp, M0, M1, M2⟩, hB1⟩ ⟨Bx, hBx, bX, rfl⟩ hlt
    have c0 := M0.c1
    have c2' : W.cell? ⟨B2, 0, none⟩ = some (.slice a2 len2 cap2) := (hB1.cell (p := ⟨B2, 0, none⟩) z2).trans c2
    have h1' : 1 ≤ n - 1 - 1 := by omega
    have hsW := hB1.size
    have s1 := okV_seg' ok1 x.2
    gi_wp2_with (refine ⟨trivial, ?_⟩; gi_at_call 57; refine (CallsIn.inRound l (edges_in (n - 1 - 1 - 1) _ _ _ _)).mono ?_; rintro e w' ⟨rfl, rfl⟩)
    have bN := Lies.new W #[.slice a2 len2 cap2] 22
    have hr' : (W.alloc (.cells #[.slice a2 len2 cap2] 22)).heap[l]? = some (.loop r) := (Below.heap_alloc W _ l (Array.getElem?_eq_some_iff.1 hr).1).trans hr
    have hst2 := edges_stops (n - 1 - 1 - 1) (by omega) W.heap.size w.heap.size a2 len2 cap2 l2 (W.alloc (.cells #[.slice a2 len2 cap2] 22)) (by simp) (by simp; omega) hl2 bN.c1 (hP2.below (hB1.alloc hsW _))
    refine wpIn_rangeFunc_ownN (l₀ := l) (r₀ := r) rfl hr' h1' (gf := 76) (lb := #[.pointer (some ⟨W.heap.size, 0, none⟩)]) rfl trivial (enters_of Tryz.func76 (by kernel_rfl) rfl)
      (hst2.inRound l) KB_t (KB_b (by simp; omega) (by simp)) (Below.refl _ _) (fun _ => rfl)
      (fun pre' W' => ((∀ y ∈ pre', meetX l1 l2 x.1 y.1 = false) ∧ Lies w.heap.size #[.pointer (some ⟨B2, 0, none⟩)] 57 W' ∧ Lies (w.heap.size + 1) #[.bool false] 4 W' ∧ Lies (w.heap.size + 1 + 1) #[.slice a1 len1 cap1] 22 W' ∧ Lies Bx #[.int .i64 (ptAt l1 x.1).1, .int .i64 (ptAt l1 x.1).2, .int .i64 (ptAt l1 (nxt l1 x.1)).1, .int .i64 (ptAt l1 (nxt l1 x.1)).2] 93 W' ∧ Lies W.heap.size #[.slice a2 len2 cap2] 22 W') ∧ (KB w.heap.size (w.heap.size + 1 + 1) W W' ∧ KeepsFrom W0.heap.size W W'))
      (fun c pre' W' => ((c = .ret ∧ ∃ y ∈ pre', meetX l1 l2 x.1 y.1 = true) ∧ Lies (w.heap.size + 1) #[.bool true] 4 W') ∧ (Below w.heap.size W W' ∧ KeepsFrom W0.heap.size W W'))
      (OwnFrom.and (OwnFrom.and (ownFrom_pure _ _) (OwnFrom.and (lies_from _ _ _ _) (OwnFrom.and (lies_from _ _ _ _) (OwnFrom.and (lies_from _ _ _ _) (OwnFrom.and (lies_from _ _ _ _) (lies_from _ _ _ _)))))) (OwnFrom.and (kb_from hsW (by simp; omega) M2.lt (by simp; have := M2.lt; omega)) (ownFrom_keepsFrom (by simp))))
      (fun c => OwnFrom.and (OwnFrom.and (ownFrom_pure _ _) (lies_from _ _ _ _)) (OwnFrom.and (ownFrom_below hsW (by simp; omega)) (ownFrom_keepsFrom (by simp))))
      ⟨⟨by simp, M0.alloc _, M1.alloc _, M2.alloc _, bX.alloc _, bN⟩, (KB.refl _ _ W).alloc hsW M2.lt _, (KeepsOthers.alloc _ _).from _⟩
      (fun y a'' W' => ∃ By, W.heap.size < By ∧ Lies By #[.int .i64 (ptAt l2 y.1).1, .int .i64 (ptAt l2 y.1).2, .int .i64 (ptAt l2 (nxt l2 y.1)).1, .int .i64 (ptAt l2 (nxt l2 y.1)).2] 93 W' ∧ a'' = { tmps := #[.pointer (some ⟨B1, 0, none⟩), .pointer (some ⟨B2, 0, none⟩), undef, .pointer (some ⟨w.heap.size, 0, none⟩), .pointer (some ⟨w.heap.size + 1, 0, none⟩), undef, .pointer (some ⟨Bx, 0, none⟩), undef, .pointer (some ⟨By, 0, none⟩), .pointer (some ⟨B1, 0, none⟩), .pointer (some ⟨B1, 0, none⟩), .pointer (some ⟨B1, 0, none⟩), .slice a1 len1 cap1, .func (.func 76) #[] #[.pointer (some ⟨w.heap.size + 1 + 1, 0, none⟩)], .int .i64 (x.1 : Int), .agg #[.int .i64 (ptAt l1 x.1).1, .int .i64 (ptAt l1 x.1).2, .int .i64 (ptAt l1 (nxt l1 x.1)).1, .int .i64 (ptAt l1 (nxt l1 x.1)).2], .pointer (some ⟨B2, 0, none⟩), .pointer (some ⟨B2, 0, none⟩), .pointer (some ⟨B2, 0, none⟩), .slice a2 len2 cap2, .func (.func 76) #[] #[.pointer (some ⟨W.heap.size, 0, none⟩)], .int .i64 (y.1 : Int), .agg #[.int .i64 (ptAt l2 y.1).1, .int .i64 (ptAt l2 y.1).2, .int .i64 (ptAt l2 (nxt l2 y.1)).1, .int .i64 (ptAt l2 (nxt l2 y.1)).2], undef, undef, undef], defers := [] })
      (fun y a'' _ X Y row hs hg hr => by obtain ⟨By, e1, e2, e3⟩ := hs; exact ⟨By, e1, lies_own (β := Unit) By _ _ () X Y row e2 hg (fun r e => (hr r e).2), e3⟩)
      ?assign2 ?body2 ?done2 ?stop2
    case assign2 =>
      rintro l3 pre' y W' K ⟨⟨hq, N0, N1, N2, NX, NS⟩, hKB, hKF⟩ hK
      unfold encE
      gi_wp2
      have hs' : w.heap.size ≤ W'.heap.size := Nat.le_trans hsW hKB.1.size
      exact hK _ _ ((KeepsOthers.alloc _ _).from _) ((KB.refl _ _ W').alloc hs' NS.lt _) ⟨⟨hq, N0.alloc _, N1.alloc _, N2.alloc _, NX.alloc _, NS.alloc _⟩, hKB.alloc hs' N2.lt _, hKF.trans ((KeepsOthers.alloc _ _).from _)⟩ ⟨W'.heap.size, NS.lt, Lies.new W' _ _, rfl⟩
    case body2 =>
      rintro l3 pre' y a'' W' _ _ ⟨⟨hq, N0, N1, N2, NX, NS⟩, hKB, hKF⟩ ⟨By, hBy, bY, rfl⟩ _
      have cR := N1.c1
      have fR := N1.f1
      obtain ⟨x0, x1, x2, x3⟩ := NX.c4
      obtain ⟨y0, y1, y2, y3⟩ := bY.c4
      have hs' : w.heap.size ≤ W'.heap.size := Nat.le_trans hsW hKB.1.size
      have s2 := okV_seg' ok2 y.2
      have h1'' : 1 ≤ n - 1 - 1 - 1 - 1 := by omega
      obtain ⟨i, hi⟩ := x
      obtain ⟨k, hk⟩ := y
      dsimp only at *
      have HX : Hid (∀ w, Calls Tryz.prog 79 #[.agg #[.int .i64 (ptAt l1 i).1, .int .i64 (ptAt l1 i).2, .int .i64 (ptAt l1 (nxt l1 i)).1, .int .i64 (ptAt l1 (nxt l1 i)).2], .agg #[.int .i64 (ptAt l2 k).1, .int .i64 (ptAt l2 k).2, .int .i64 (ptAt l2 (nxt l2 k)).1, .int .i64 (ptAt l2 (nxt l2 k)).2]] w fun e w' => e = .returned (.bool (meetX l1 l2 i k)) ∧ Below w.heap.size w w') := fun w => by
        have := meet_raw (ptAt l1 i) (ptAt l1 (nxt l1 i)) (ptAt l2 k) (ptAt l2 (nxt l2 k)) w; rwa [meetQ_of s1 s2] at this
      cases hme : meetX l1 l2 i k
      · gi_wp2_with (refine ⟨trivial, ?_⟩; gi_at_call 79; refine (CallsIn.inRound l3 (callsIn_wide.2 (HX.out _))).mono ?_; rw [hme]; rintro e w2 ⟨rfl, J⟩)
        exact ⟨(KeepsOthers.of_below J).from _, KB.of_below J hs' NS.lt, ⟨fun q hq' => (List.mem_append.1 hq').elim (hq q) (fun e => by simp at e; rw [e]; exact hme), N0.below J, N1.below J, N2.below J, NX.below J, NS.below J⟩, hKB.trans (KB.of_below J hs' N2.lt), hKF.trans ((KeepsOthers.of_below J).from _)⟩
      · gi_wp2_with (refine ⟨trivial, ?_⟩; gi_at_call 79; refine (CallsIn.inRound l3 (callsIn_wide.2 (HX.out _))).mono ?_; rw [hme]; rintro e w2 ⟨rfl, J⟩; have cR' := (N1.below J).c1; have fR' := (N1.below J).f1)
        exact ⟨((KeepsOthers.of_below J).trans (KeepsOthers.setCell _ _ _)).from _, ⟨⟨rfl, ⟨k, hk⟩, List.mem_append.2 (.inr (by simp)), hme⟩, (N1.below J).set1 _⟩, (hKB.1.trans (J.mono hs')).setCell (p := ⟨w.heap.size + 1, 0, none⟩) (by simp) _, hKF.trans (((KeepsOthers.of_below J).trans (KeepsOthers.setCell _ _ _)).from _)⟩
    case done2 =>
      rintro ys' W' rfl ⟨⟨hq, N0, N1, N2, NX, NS⟩, hKB, hKF⟩
      gi_wp2
      exact ⟨hKF, hKB, ⟨fun z hz => (List.mem_append.1 hz).elim (hp z) (fun e => by simp at e; rw [e]; exact hq), N0, N1, N2⟩, hB1.trans hKB.1⟩
    case stop2 =>
      rintro c pre' W' hpre ⟨⟨⟨rfl, y, hy, hm⟩, N1⟩, hBW, hKF⟩
      gi_wp2
      exact ⟨hKF, ⟨⟨rfl, x, List.mem_append.2 (.inr (by simp)), y, hm⟩, N1⟩, hB1.trans hBW⟩
  case done =>
    rintro D zs W hD rfl ⟨⟨hp, M0, M1, M2⟩, hB1⟩ hK
    have cR := M1.c1
    have fR := M1.f1
    gi_wp2
    have hK' := (KeepsOthers.setCell W ⟨w.heap.size + 1, 0, none⟩ (.bool false)).same D _ hK rfl
    refine ⟨by simp, .inl ⟨_, _, rfl, run_takeDeferred hK', ?_⟩⟩
    have hc5 := ((M1.set1 (.bool false)).put (.deferred none) hK' rfl).c1
    refine ⟨.bool false, ?_, ?_, (hB1.setCell (p := ⟨w.heap.size + 1, 0, none⟩) (by simp) _).trans (belowK_b (w := w) (Nat.le_refl _) _ D _ _ (by omega) hK' rfl rfl)⟩
    · simp [results, Tryz.f86, go_sem, hc5]
    · rw [apL_none hp]; rfl
  case stop =>
    rintro D c pre W hD hpre ⟨⟨⟨rfl, x, hx, y, hy⟩, M1⟩, hB1⟩ hK
    gi_wp2
    refine ⟨by simp, .inl ⟨_, _, rfl, run_takeDeferred hK, ?_⟩⟩
    have hc5 := (M1.put (.deferred none) hK rfl).c1
    refine ⟨.bool true, ?_, ?_, hB1.trans (belowK_b (w := w) (Nat.le_refl _) _ D _ _ (by omega) hK rfl rfl)⟩
    · simp [results, Tryz.f86, go_sem, hc5]
    · rw [apL_some x y hy]; rfl
theorem meets_any (B1 B2 : Nat) (a1 a2 : Option Addr) (len1 cap1 len2 cap2 : Nat) (l1 l2 : List P2) (hl1 : len1 ≤ 1048576) (hl2 : len2 ≤ 1048576) (ok1 : okV l1 = true) (ok2 : okV l2 = true) (w : World)
    (c1 : w.cell? ⟨B1, 0, none⟩ = some (.slice a1 len1 cap1)) (c2 : w.cell? ⟨B2, 0, none⟩ = some (.slice a2 len2 cap2)) (hP1 : Pts w.heap.size w a1 len1 l1) (hP2 : Pts w.heap.size w a2 len2 l2) :
    Calls Tryz.prog 86 #[.pointer (some ⟨B1, 0, none⟩), .pointer (some ⟨B2, 0, none⟩)] w fun e W' => e = .returned (.bool (!apL l1 l2)) ∧ Below w.heap.size w W' :=
  callsIn_wide.1 (meets_in 10 (Nat.le_refl _) B1 B2 a1 a2 len1 cap1 len2 cap2 l1 l2 hl1 hl2 ok1 ok2 w c1 c2 hP1 hP2)
end Go.Proofs.YthjnfjnnpabenaaGreatDoor
namespace Go.Proofs.YthjnfjnnpabenaaGreatDoor
open Go.RowKit Go.Shelf

/-- A ring: where its points lie, and the points. -/
structure RingT where
  a : Option Addr
  len : Nat
  cap : Nat
  pts : List P2
/-- Rings, one behind the other, from an address on: their points lie below n₀. -/
def RingL (n₀ : Nat) (W : World) : Option Addr → List RingT → Prop
  | p, [] => p = none
  | p, x :: xs => ∃ (b : Nat) (q : Option Addr) (t : TypeId), p = some ⟨b, 0, none⟩ ∧ Lies b #[.slice x.a x.len x.cap, .pointer q] t W ∧ x.len ≤ 1048576 ∧ Pts n₀ W x.a x.len x.pts ∧ RingL n₀ W q xs
theorem RingL.below {n₀ : Nat} {W W' : World} (h : Below W.heap.size W W') (hn : n₀ ≤ W.heap.size) : ∀ {p : Option Addr} {xs : List RingT}, RingL n₀ W p xs → RingL n₀ W' p xs
  | _, [], hl => hl
  | _, _ :: _, ⟨b, q, t, hp, hb, hl, hP, hr⟩ => ⟨b, q, t, hp, hb.below h, hl, hP.below (h.mono hn), RingL.below h hn hr⟩
theorem RingL.grow {n₀ n₁ : Nat} {W : World} (k : n₀ ≤ n₁) : ∀ {p : Option Addr} {xs : List RingT}, RingL n₀ W p xs → RingL n₁ W p xs
  | _, [], hl => hl
  | _, _ :: _, ⟨b, q, t, hp, hb, hl, hP, hr⟩ => ⟨b, q, t, hp, hb, hl, hP.grow k, RingL.grow k hr⟩
theorem RingL.len {n₀ n₁ : Nat} {W : World} : ∀ {p : Option Addr} {xs ys : List RingT}, RingL n₀ W p xs → RingL n₁ W p ys → xs.length = ys.length
  | _, [], [], _, _ => rfl
  | _, [], _ :: _, h, ⟨_, _, _, hp, _⟩ => by rw [h] at hp; cases hp
  | _, _ :: _, [], ⟨_, _, _, hp, _⟩, h => by rw [h] at hp; cases hp
  | _, x :: xs, y :: ys, ⟨b, q, t, hp, hb, _, _, hr⟩, ⟨b', q', t', hp', hb', _, _, hr'⟩ => by
    rw [hp] at hp'; cases hp'
    unfold Lies at hb hb'
    rw [hb] at hb'
    simp only [Option.some.injEq, Obj.cells.injEq] at hb'
    have e2 : some (Value.pointer q) = some (Value.pointer q') := congrArg (fun (v : Array Value) => v[1]?) hb'.1
    simp only [Option.some.injEq, Value.pointer.injEq] at e2
    subst e2
    rw [List.length_cons, List.length_cons, RingL.len hr hr']
open Classical in
/-- How many rings are still to come. -/
noncomputable def ringsLeft (W : World) (v : Value) : Nat :=
  if h : ∃ r : Nat × Option Addr × List RingT, v = .pointer r.2.1 ∧ RingL r.1 W r.2.1 r.2.2 then (Classical.choose h).2.2.length else 0
theorem ringsLeft_eq {n₀ : Nat} {W : World} {q : Option Addr} {xs : List RingT} (h : RingL n₀ W q xs) : ringsLeft W (.pointer q) = xs.length := by
  have hex : ∃ r : Nat × Option Addr × List RingT, Value.pointer q = .pointer r.2.1 ∧ RingL r.1 W r.2.1 r.2.2 := ⟨(n₀, q, xs), rfl, h⟩
  unfold ringsLeft
  rw [dif_pos hex]
  obtain ⟨e, hl⟩ := Classical.choose_spec hex
  have e' : q = (Classical.choose hex).2.1 := by simpa using e
  rw [← e'] at hl
  exact hl.len h
/-- Lying rings abide what a round does. -/
theorem lies2 {b : Nat} {x y : Value} {t : TypeId} {W : World} (h : Lies b #[x, y] t W) : W.cell? ⟨b, 0, none⟩ = some x ∧ W.cell? ⟨b, 1, none⟩ = some y ∧ W.frozen? ⟨b, 0, none⟩ = false ∧ W.frozen? ⟨b, 1, none⟩ = false := by
  unfold Lies at h
  refine ⟨?_, ?_, ?_, ?_⟩ <;> simp [World.cell?, World.frozen?, h]
theorem Lies.other' {B B' i : Nat} {cs : Array Value} {t : TypeId} {W : World} (h : Lies B cs t W) (hne : B ≠ B') (u : Value) : Lies B cs t (W.setCell ⟨B', i, none⟩ u) := (Below.heap_setCell W ⟨B', i, none⟩ u B hne).trans h
/-- The same, the points apart: blocks alone, all at or beyond base. -/
def RingB (base : Nat) (W : World) : Option Addr → List (Option Addr × Nat × Nat) → Prop
  | p, [] => p = none
  | p, x :: xs => ∃ (b : Nat) (q : Option Addr), p = some ⟨b, 0, none⟩ ∧ base ≤ b ∧ Lies b #[.slice x.1 x.2.1 x.2.2, .pointer q] 59 W ∧ RingB base W q xs
theorem ringB_own (base : Nat) : ∀ (xs : List (Option Addr × Nat × Nat)) (p : Option Addr) (W W' : World) (row : Option Nat), RingB base W p xs → W.grownBy W' row → (∀ r, row = some r → ∃ o : Obj, W.heap[r]? = some o ∧ o.isCells = false) → RingB base W' p xs
  | [], _, _, _, _, h, _, _ => h
  | _ :: xs, _, W, W', row, ⟨b, q, hp, hb, hl, hr⟩, hg, hrow => ⟨b, q, hp, hb, lies_own (β := Unit) b _ _ () W W' row hl hg hrow, ringB_own base xs q W W' row hr hg hrow⟩
theorem RingB.other {base : Nat} {W : World} {B : Nat} (i : Nat) (v : Value) : ∀ {p : Option Addr} {xs : List (Option Addr × Nat × Nat)}, RingB base W p xs → B < base → RingB base (W.setCell ⟨B, i, none⟩ v) p xs
  | _, [], h, _ => h
  | _, _ :: _, ⟨b, q, hp, hb, hl, hr⟩, hB => ⟨b, q, hp, hb, (Below.heap_setCell W ⟨B, i, none⟩ v b (by show b ≠ B; omega)).trans hl, RingB.other i v hr hB⟩
theorem RingB.rings {base n₀ : Nat} {W : World} : ∀ {p : Option Addr} {xs : List RingT}, RingB base W p (xs.map fun x => (x.a, x.len, x.cap)) → (∀ x ∈ xs, x.len ≤ 1048576 ∧ Pts n₀ W x.a x.len x.pts) → RingL n₀ W p xs
  | _, [], h, _ => h
  | _, x :: xs, ⟨b, q, hp, hb, hl, hr⟩, hx => ⟨b, q, _, hp, hl, (hx x (by simp)).1, (hx x (by simp)).2, RingB.rings hr (fun y hy => hx y (by simp [hy]))⟩
end Go.Proofs.YthjnfjnnpabenaaGreatDoor
namespace Go.Proofs.YthjnfjnnpabenaaGreatDoor
open Go.RowKit Go.Sort

/-- The first point of a ring. -/
theorem pts_first {n₀ : Nat} {W : World} {a : Option Addr} {len : Nat} {l : List P2} (h : Pts n₀ W a len l) (h0 : 0 < len) : ∃ b off, a = some ⟨b, off, none⟩ ∧ b < n₀ ∧ W.cell? ⟨b, off, none⟩ = some (.int .i64 (ptAt l 0).1) ∧ W.cell? ⟨b, off + 1, none⟩ = some (.int .i64 (ptAt l 0).2) := by
  rcases h.2 with h | ⟨b, off, e, hb, hc⟩
  · omega
  · have := hc 0 h0
    rw [Nat.zero_mul, Nat.add_zero] at this
    exact ⟨b, off, e, hb, this⟩
theorem okV_first {l : List P2} (h : okV l = true) : ptB (ptAt l 0).1 (ptAt l 0).2 = true := by
  have := okV_pos h
  exact (sgP_pt (((okV_iff l).1 h).seg 0 (by omega))).1
set_option maxRecDepth 100000 in
set_option maxHeartbeats 4000000 in
theorem around_any (B1 B2 : Nat) (a1 a2 : Option Addr) (len1 cap1 len2 cap2 : Nat) (l1 l2 : List P2) (hl1 : len1 ≤ 1048576) (hl2 : len2 ≤ 1048576) (ok1 : okV l1 = true) (ok2 : okV l2 = true) (w : World)
    (c1 : w.cell? ⟨B1, 0, none⟩ = some (.slice a1 len1 cap1)) (c2 : w.cell? ⟨B2, 0, none⟩ = some (.slice a2 len2 cap2)) (hP1 : Pts w.heap.size w a1 len1 l1) (hP2 : Pts w.heap.size w a2 len2 l2) :
    Calls Tryz.prog 70 #[.pointer (some ⟨B1, 0, none⟩), .pointer (some ⟨B2, 0, none⟩)] w fun e W' => e = .returned (.bool (arB l1 l2)) ∧ Below w.heap.size w W' := by
  have z1 : B1 < w.heap.size := World.block_lt_of_cell? _ _ c1
  have z2 : B2 < w.heap.size := World.block_lt_of_cell? _ _ c2
  have hlen1 : 3 ≤ len1 := by have := okV_pos ok1; have := hP1.1; omega
  have hlen2 : 3 ≤ len2 := by have := okV_pos ok2; have := hP2.1; omega
  have HM : Hid (∀ d os, Calls Tryz.prog 86 #[.pointer (some ⟨B1, 0, none⟩), .pointer (some ⟨B2, 0, none⟩)] (grow (redrawn w d) os) fun e W' => e = .returned (.bool (!apL l1 l2)) ∧ Below (grow (redrawn w d) os).heap.size (grow (redrawn w d) os) W') := fun d os =>
    meets_any B1 B2 a1 a2 len1 cap1 len2 cap2 l1 l2 hl1 hl2 ok1 ok2 _ (cell_regrown c1 d os) (cell_regrown c2 d os) ((hP1.below (below_regrown w d os)).grow (below_regrown w d os).size) ((hP2.below (below_regrown w d os)).grow (below_regrown w d os).size)
  have HW : Hid (∀ d os, Calls Tryz.prog 87 #[.slice a1 len1 cap1, .agg #[.int .i64 (ptAt l2 0).1, .int .i64 (ptAt l2 0).2]] (grow (redrawn w d) os) fun e W' => e = .returned (.int .i64 (inI l1 (ptAt l2 0))) ∧ Below (grow (redrawn w d) os).heap.size (grow (redrawn w d) os) W') := fun d os =>
    where_any a1 len1 cap1 l1 (ptAt l2 0) hl1 ok1 (okV_first ok2) _ ((hP1.below (below_regrown w d os)).grow (below_regrown w d os).size)
  have p1 : (0 : Int) < (len2 : Int) := by omega
  cases hap : apL l1 l2
  · rw [hap] at HM
    have e1 : Hid (arB l1 l2 = false) := by change _ = _; unfold arB; rw [hap]; rfl
    clear hap
    go_enter Tryz.func70, Tryz.ntmps70
    go_wp2_with fail
    refine wp_region_quiet_below (by kernel_rfl) (by kernel_rfl) ?_
    repeat (first | go_big_quiet_step (first | (go_at_call 86; with_reducible exact Calls.regrown_of (HM.out _ _))))
    refine wpQuiet_nil ?_
    intro _ hw'
    obtain ⟨⟨dq, osq⟩, hw''⟩ := hw'
    subst hw''
    have J := below_regrown w dq osq
    generalize grow (redrawn w dq) osq = v at J ⊢
    go_wp2_with fail
    go_ret
    exact ⟨ret_bool e1.out.symm, J⟩
  · rw [hap] at HM
    have e1 : Hid (arB l1 l2 = (inI l1 (ptAt l2 0) == 1)) := by change _ = _; unfold arB; rw [hap, Bool.true_and, Bool.eq_iff_iff, decide_eq_true_eq, beq_iff_eq]
    clear hap
    obtain ⟨b, off, rfl, hb, f0, f1⟩ := pts_first hP2 (by omega)
    have f0' := cell_regrown f0
    have f1' := cell_regrown f1
    have c1' := cell_regrown c1
    have c2' := cell_regrown c2
    clear f0 f1 c1 c2 hP1 hP2
    generalize inI l1 (ptAt l2 0) = u at *
    generalize ptAt l2 0 = q at *
    go_enter Tryz.func70, Tryz.ntmps70
    go_wp2_with fail
    refine wp_region_quiet_below (by kernel_rfl) (by kernel_rfl) ?_
    repeat (first | go_big_quiet_step (first | (go_at_call 86; with_reducible exact Calls.regrown_of (HM.out _ _)) | (go_at_call 87; with_reducible exact Calls.regrown_of (HW.out _ _))))
    refine wpQuiet_nil ?_
    intro _ hw'
    obtain ⟨⟨dq, osq⟩, hw''⟩ := hw'
    subst hw''
    have J := below_regrown w dq osq
    generalize grow (redrawn w dq) osq = v at J ⊢
    go_wp2_with fail
    go_ret
    exact ⟨ret_bool e1.out.symm, J⟩
set_option maxRecDepth 100000 in
set_option maxHeartbeats 4000000 in
theorem beside_any (B1 B2 : Nat) (a1 a2 : Option Addr) (len1 cap1 len2 cap2 : Nat) (l1 l2 : List P2) (hl1 : len1 ≤ 1048576) (hl2 : len2 ≤ 1048576) (ok1 : okV l1 = true) (ok2 : okV l2 = true) (w : World)
    (c1 : w.cell? ⟨B1, 0, none⟩ = some (.slice a1 len1 cap1)) (c2 : w.cell? ⟨B2, 0, none⟩ = some (.slice a2 len2 cap2)) (hP1 : Pts w.heap.size w a1 len1 l1) (hP2 : Pts w.heap.size w a2 len2 l2) :
    Calls Tryz.prog 71 #[.pointer (some ⟨B1, 0, none⟩), .pointer (some ⟨B2, 0, none⟩)] w fun e W' => e = .returned (.bool (beB l1 l2)) ∧ Below w.heap.size w W' := by
  have z1 : B1 < w.heap.size := World.block_lt_of_cell? _ _ c1
  have z2 : B2 < w.heap.size := World.block_lt_of_cell? _ _ c2
  have hlen1 : 3 ≤ len1 := by have := okV_pos ok1; have := hP1.1; omega
  have hlen2 : 3 ≤ len2 := by have := okV_pos ok2; have := hP2.1; omega
  have HM : Hid (∀ d os, Calls Tryz.prog 86 #[.pointer (some ⟨B1, 0, none⟩), .pointer (some ⟨B2, 0, none⟩)] (grow (redrawn w d) os) fun e W' => e = .returned (.bool (!apL l1 l2)) ∧ Below (grow (redrawn w d) os).heap.size (grow (redrawn w d) os) W') := fun d os =>
    meets_any B1 B2 a1 a2 len1 cap1 len2 cap2 l1 l2 hl1 hl2 ok1 ok2 _ (cell_regrown c1 d os) (cell_regrown c2 d os) ((hP1.below (below_regrown w d os)).grow (below_regrown w d os).size) ((hP2.below (below_regrown w d os)).grow (below_regrown w d os).size)
  have HW : Hid (∀ d os, Calls Tryz.prog 87 #[.slice a1 len1 cap1, .agg #[.int .i64 (ptAt l2 0).1, .int .i64 (ptAt l2 0).2]] (grow (redrawn w d) os) fun e W' => e = .returned (.int .i64 (inI l1 (ptAt l2 0))) ∧ Below (grow (redrawn w d) os).heap.size (grow (redrawn w d) os) W') := fun d os =>
    where_any a1 len1 cap1 l1 (ptAt l2 0) hl1 ok1 (okV_first ok2) _ ((hP1.below (below_regrown w d os)).grow (below_regrown w d os).size)
  have HV : Hid (∀ d os, Calls Tryz.prog 87 #[.slice a2 len2 cap2, .agg #[.int .i64 (ptAt l1 0).1, .int .i64 (ptAt l1 0).2]] (grow (redrawn w d) os) fun e W' => e = .returned (.int .i64 (inI l2 (ptAt l1 0))) ∧ Below (grow (redrawn w d) os).heap.size (grow (redrawn w d) os) W') := fun d os =>
    where_any a2 len2 cap2 l2 (ptAt l1 0) hl2 ok2 (okV_first ok1) _ ((hP2.below (below_regrown w d os)).grow (below_regrown w d os).size)
  have p1 : (0 : Int) < (len2 : Int) := by omega
  have p2 : (0 : Int) < (len1 : Int) := by omega
  cases hap : apL l1 l2
  · rw [hap] at HM
    have e1 : Hid (beB l1 l2 = false) := by change _ = _; unfold beB; rw [hap]; rfl
    clear hap
    go_enter Tryz.func71, Tryz.ntmps71
    go_wp2_with fail
    refine wp_region_quiet_below (by kernel_rfl) (by kernel_rfl) ?_
    repeat (first | go_big_quiet_step (first | (go_at_call 86; with_reducible exact Calls.regrown_of (HM.out _ _))))
    refine wpQuiet_nil ?_
    intro _ hw'
    obtain ⟨⟨dq, osq⟩, hw''⟩ := hw'
    subst hw''
    have J := below_regrown w dq osq
    generalize grow (redrawn w dq) osq = v at J ⊢
    go_wp2_with fail
    go_ret
    exact ⟨ret_bool e1.out.symm, J⟩
  rw [hap] at HM
  have e1 : Hid (beB l1 l2 = ((inI l1 (ptAt l2 0) == -1) && (inI l2 (ptAt l1 0) == -1))) := by
    change _ = _; rw [Bool.eq_iff_iff, beB_iff, hap]; simp
  clear hap
  obtain ⟨b, off, rfl, hb, f0, f1⟩ := pts_first hP2 (by omega)
  obtain ⟨b', off', rfl, hb', g0, g1⟩ := pts_first hP1 (by omega)
  have f0' := cell_regrown f0
  have f1' := cell_regrown f1
  have g0' := cell_regrown g0
  have g1' := cell_regrown g1
  have c1' := cell_regrown c1
  have c2' := cell_regrown c2
  clear f0 f1 g0 g1 c1 c2 hP1 hP2
  generalize inI l1 (ptAt l2 0) = u at *
  generalize inI l2 (ptAt l1 0) = u' at *
  generalize ptAt l2 0 = q at *
  generalize ptAt l1 0 = q' at *
  cases hu : u == -1
  · rw [hu] at e1
    go_enter Tryz.func71, Tryz.ntmps71
    go_wp2_with fail
    refine wp_region_quiet_below (by kernel_rfl) (by kernel_rfl) ?_
    repeat (first | go_big_quiet_step (first | (go_at_call 86; with_reducible exact Calls.regrown_of (HM.out _ _)) | (go_at_call 87; with_reducible exact Calls.regrown_of (HW.out _ _)) | (go_at_call 87; with_reducible exact Calls.regrown_of (HV.out _ _))))
    refine wpQuiet_nil ?_
    intro _ hw'
    obtain ⟨⟨dq, osq⟩, hw''⟩ := hw'
    subst hw''
    have J := below_regrown w dq osq
    generalize grow (redrawn w dq) osq = v at J ⊢
    go_wp2_with fail
    go_ret
    exact ⟨ret_bool e1.out.symm, J⟩
  · rw [hu] at e1
    go_enter Tryz.func71, Tryz.ntmps71
    go_wp2_with fail
    refine wp_region_quiet_below (by kernel_rfl) (by kernel_rfl) ?_
    repeat (first | go_big_quiet_step (first | (go_at_call 86; with_reducible exact Calls.regrown_of (HM.out _ _)) | (go_at_call 87; with_reducible exact Calls.regrown_of (HW.out _ _)) | (go_at_call 87; with_reducible exact Calls.regrown_of (HV.out _ _))))
    refine wpQuiet_nil ?_
    intro _ hw'
    obtain ⟨⟨dq, osq⟩, hw''⟩ := hw'
    subst hw''
    have J := below_regrown w dq osq
    generalize grow (redrawn w dq) osq = v at J ⊢
    go_wp2_with fail
    go_ret
    exact ⟨ret_bool e1.out.symm, J⟩
end Go.Proofs.YthjnfjnnpabenaaGreatDoor
namespace Go.Proofs.YthjnfjnnpabenaaGreatDoor
open Go.RowKit Go.Sort

set_option maxRecDepth 100000 in
set_option maxHeartbeats 4000000 in
theorem allLoops_any (b : Nat) (xs : List RingT) (w : World) (h : RingL w.heap.size w (some ⟨b, 0, none⟩) xs) :
    Calls Tryz.prog 51 #[.pointer (some ⟨b, 0, none⟩)] w fun e W' => e = .returned (.bool (xs.all fun x => okV x.pts)) ∧ Below w.heap.size w W' := by
  go_enter Tryz.func51, Tryz.ntmps51
  go_wp2_with fail
  go_loopw [3] (fun p wr => ∃ q rest, p = .pointer q ∧ RingL wr.heap.size wr q rest ∧ (xs.all fun x => okV x.pts) = (rest.all fun x => okV x.pts) ∧ Below w.heap.size w wr) (fun p wr => ringsLeft wr p)
  case atStart => exact ⟨_, xs, rfl, h, rfl, bw_refl _⟩
  case round =>
    obtain ⟨q, rest, rfl, hL, he, hnx⟩ := hrel
    cases rest with
    | nil =>
      obtain rfl : q = none := hL
      have e1 : Hid ((xs.all fun x => okV x.pts) = true) := by change _ = _; rw [he]; rfl
      clear he
      go_wp2_with fail
      go_ret
      exact ⟨ret_bool e1.out.symm, hnx⟩
    | cons y ys =>
      have hL' := hL
      obtain ⟨b1, q', t, rfl, hb, hlen, hP, hr⟩ := hL
      obtain ⟨d0, d1, _, _⟩ := lies2 hb
      have hcall := ok_any y.a y.len y.cap y.pts hlen wr hP
      rw [List.all_cons] at he
      cases hok : okV y.pts
      · rw [hok] at hcall he
        have e1 : Hid ((xs.all fun x => okV x.pts) = false) := he
        clear he
        go_wp2_with (go_at_call 36; refine hcall.mono ?_; rintro e v ⟨rfl, J⟩)
        go_ret
        exact ⟨ret_bool e1.out.symm, bw_trans hnx J⟩
      · rw [hok] at hcall he
        rw [Bool.true_and] at he
        have e1 : Hid ((xs.all fun x => okV x.pts) = (ys.all fun x => okV x.pts)) := he
        clear he
        go_wp2_with (go_at_call 36; refine hcall.mono ?_; rintro e v ⟨rfl, J⟩; obtain ⟨d0', d1', _, _⟩ := lies2 (hb.below J))
        go_roundw
        case rel => exact ⟨q', ys, rfl, (hr.below J (Nat.le_refl _)).grow J.size, e1.out, bw_trans hnx J⟩
        case measure => rw [ringsLeft_eq (hr.below J (Nat.le_refl _)), ringsLeft_eq hL']; simp

set_option maxRecDepth 100000 in
set_option maxHeartbeats 4000000 in
theorem holesFree_0 (b : Nat) (o : RingT) (w : World) (hR : RingL w.heap.size w (some ⟨b, 0, none⟩) [o]) :
    Calls Tryz.prog 52 #[.pointer (some ⟨b, 0, none⟩)] w fun e W' => e = .returned (.bool true) ∧ Below w.heap.size w W' := by
  obtain ⟨b0, q0, t0, e0, ob, ol, oP, hR⟩ := hR
  cases e0
  obtain rfl : q0 = none := hR
  have K : Below w.heap.size w w := bw_refl _
  obtain ⟨o0, o1, _, _⟩ := lies2 (ob.below K)
  go_enter Tryz.func52, Tryz.ntmps52
  go_wp2_with fail
  refine wp_loop_rounds 1 ?_
  rw [rounds_succ]
  go_wp2_with fail
  go_ret
  exact ⟨rfl, bw_refl _⟩
set_option maxRecDepth 100000 in
set_option maxHeartbeats 4000000 in
theorem holesFree_1 (b : Nat) (o h : RingT) (w : World) (hR : RingL w.heap.size w (some ⟨b, 0, none⟩) [o, h]) (oko : okV o.pts = true) (okh : okV h.pts = true) :
    Calls Tryz.prog 52 #[.pointer (some ⟨b, 0, none⟩)] w fun e W' => e = .returned (.bool (arB o.pts h.pts)) ∧ Below w.heap.size w W' := by
  obtain ⟨b0, q0, t0, e0, ob, ol, oP, hR⟩ := hR
  cases e0
  obtain ⟨b1, q1, t1, rfl, hb, hl, hP, hR⟩ := hR
  obtain rfl : q1 = none := hR
  have K : Below w.heap.size w w := bw_refl _
  obtain ⟨o0, o1, _, _⟩ := lies2 (ob.below K)
  obtain ⟨h0, h1, _, _⟩ := lies2 (hb.below K)
  cases har : arB o.pts h.pts
  · go_enter Tryz.func52, Tryz.ntmps52
    go_wp2_with fail
    refine wp_loop_rounds 2 ?_
    rw [rounds_succ]
    have hcall := around_any b b1 o.a h.a o.len o.cap h.len h.cap o.pts h.pts ol hl oko okh w o0 h0 ((oP.below K).grow K.size) ((hP.below K).grow K.size)
    rw [har] at hcall
    go_wp2_with (go_at_call 70; refine hcall.mono ?_; clear hcall; rintro e v1 ⟨rfl, J⟩; replace K := bw_trans K J; clear J o0 o1 h0 h1; obtain ⟨o0, o1, _, _⟩ := lies2 (ob.below K); obtain ⟨h0, h1, _, _⟩ := lies2 (hb.below K))
    go_ret
    exact ⟨rfl, K⟩
  · go_enter Tryz.func52, Tryz.ntmps52
    go_wp2_with fail
    refine wp_loop_rounds 2 ?_
    rw [rounds_succ]
    have hcall := around_any b b1 o.a h.a o.len o.cap h.len h.cap o.pts h.pts ol hl oko okh w o0 h0 ((oP.below K).grow K.size) ((hP.below K).grow K.size)
    rw [har] at hcall
    go_wp2_with (go_at_call 70; refine hcall.mono ?_; clear hcall; rintro e v1 ⟨rfl, J⟩; replace K := bw_trans K J; clear J o0 o1 h0 h1; obtain ⟨o0, o1, _, _⟩ := lies2 (ob.below K); obtain ⟨h0, h1, _, _⟩ := lies2 (hb.below K))
    refine wp_loop_rounds 1 ?_
    rw [rounds_succ]
    go_wp2_with fail
    rw [rounds_succ]
    go_wp2_with fail
    go_ret
    exact ⟨rfl, K⟩
set_option maxRecDepth 100000 in
set_option maxHeartbeats 4000000 in
theorem holesFree_2 (b : Nat) (o h k : RingT) (w : World) (hR : RingL w.heap.size w (some ⟨b, 0, none⟩) [o, h, k]) (oko : okV o.pts = true) (okh : okV h.pts = true) (okk : okV k.pts = true) :
    Calls Tryz.prog 52 #[.pointer (some ⟨b, 0, none⟩)] w fun e W' => e = .returned (.bool (arB o.pts h.pts && beB h.pts k.pts && arB o.pts k.pts)) ∧ Below w.heap.size w W' := by
  obtain ⟨b0, q0, t0, e0, ob, ol, oP, hR⟩ := hR
  cases e0
  obtain ⟨b1, q1, t1, rfl, hb, hl, hP, hR⟩ := hR
  obtain ⟨b2, q2, t2, rfl, kb, kl, kP, hR⟩ := hR
  obtain rfl : q2 = none := hR
  have K : Below w.heap.size w w := bw_refl _
  obtain ⟨o0, o1, _, _⟩ := lies2 (ob.below K)
  obtain ⟨h0, h1, _, _⟩ := lies2 (hb.below K)
  obtain ⟨k0, k1, _, _⟩ := lies2 (kb.below K)
  cases har : arB o.pts h.pts
  · go_enter Tryz.func52, Tryz.ntmps52
    go_wp2_with fail
    refine wp_loop_rounds 3 ?_
    rw [rounds_succ]
    have hcall := around_any b b1 o.a h.a o.len o.cap h.len h.cap o.pts h.pts ol hl oko okh w o0 h0 ((oP.below K).grow K.size) ((hP.below K).grow K.size)
    rw [har] at hcall
    go_wp2_with (go_at_call 70; refine hcall.mono ?_; clear hcall; rintro e v1 ⟨rfl, J⟩; replace K := bw_trans K J; clear J o0 o1 h0 h1 k0 k1; obtain ⟨o0, o1, _, _⟩ := lies2 (ob.below K); obtain ⟨h0, h1, _, _⟩ := lies2 (hb.below K); obtain ⟨k0, k1, _, _⟩ := lies2 (kb.below K))
    go_ret
    exact ⟨rfl, K⟩
  cases hbe : beB h.pts k.pts
  · go_enter Tryz.func52, Tryz.ntmps52
    go_wp2_with fail
    refine wp_loop_rounds 3 ?_
    rw [rounds_succ]
    have hcall := around_any b b1 o.a h.a o.len o.cap h.len h.cap o.pts h.pts ol hl oko okh w o0 h0 ((oP.below K).grow K.size) ((hP.below K).grow K.size)
    rw [har] at hcall
    go_wp2_with (go_at_call 70; refine hcall.mono ?_; clear hcall; rintro e v1 ⟨rfl, J⟩; replace K := bw_trans K J; clear J o0 o1 h0 h1 k0 k1; obtain ⟨o0, o1, _, _⟩ := lies2 (ob.below K); obtain ⟨h0, h1, _, _⟩ := lies2 (hb.below K); obtain ⟨k0, k1, _, _⟩ := lies2 (kb.below K))
    refine wp_loop_rounds 2 ?_
    rw [rounds_succ]
    have hcall := beside_any b1 b2 h.a k.a h.len h.cap k.len k.cap h.pts k.pts hl kl okh okk v1 h0 k0 ((hP.below K).grow K.size) ((kP.below K).grow K.size)
    rw [hbe] at hcall
    go_wp2_with (go_at_call 71; refine hcall.mono ?_; clear hcall; rintro e v2 ⟨rfl, J⟩; replace K := bw_trans K J; clear J o0 o1 h0 h1 k0 k1; obtain ⟨o0, o1, _, _⟩ := lies2 (ob.below K); obtain ⟨h0, h1, _, _⟩ := lies2 (hb.below K); obtain ⟨k0, k1, _, _⟩ := lies2 (kb.below K))
    go_ret
    exact ⟨rfl, K⟩
  cases hak : arB o.pts k.pts
  · go_enter Tryz.func52, Tryz.ntmps52
    go_wp2_with fail
    refine wp_loop_rounds 3 ?_
    rw [rounds_succ]
    have hcall := around_any b b1 o.a h.a o.len o.cap h.len h.cap o.pts h.pts ol hl oko okh w o0 h0 ((oP.below K).grow K.size) ((hP.below K).grow K.size)
    rw [har] at hcall
    go_wp2_with (go_at_call 70; refine hcall.mono ?_; clear hcall; rintro e v1 ⟨rfl, J⟩; replace K := bw_trans K J; clear J o0 o1 h0 h1 k0 k1; obtain ⟨o0, o1, _, _⟩ := lies2 (ob.below K); obtain ⟨h0, h1, _, _⟩ := lies2 (hb.below K); obtain ⟨k0, k1, _, _⟩ := lies2 (kb.below K))
    refine wp_loop_rounds 2 ?_
    rw [rounds_succ]
    have hcall := beside_any b1 b2 h.a k.a h.len h.cap k.len k.cap h.pts k.pts hl kl okh okk v1 h0 k0 ((hP.below K).grow K.size) ((kP.below K).grow K.size)
    rw [hbe] at hcall
    go_wp2_with (go_at_call 71; refine hcall.mono ?_; clear hcall; rintro e v2 ⟨rfl, J⟩; replace K := bw_trans K J; clear J o0 o1 h0 h1 k0 k1; obtain ⟨o0, o1, _, _⟩ := lies2 (ob.below K); obtain ⟨h0, h1, _, _⟩ := lies2 (hb.below K); obtain ⟨k0, k1, _, _⟩ := lies2 (kb.below K))
    rw [rounds_succ]
    go_wp2_with fail
    rw [rounds_succ]
    have hcall := around_any b b2 o.a k.a o.len o.cap k.len k.cap o.pts k.pts ol kl oko okk v2 o0 k0 ((oP.below K).grow K.size) ((kP.below K).grow K.size)
    rw [hak] at hcall
    go_wp2_with (go_at_call 70; refine hcall.mono ?_; clear hcall; rintro e v3 ⟨rfl, J⟩; replace K := bw_trans K J; clear J o0 o1 h0 h1 k0 k1; obtain ⟨o0, o1, _, _⟩ := lies2 (ob.below K); obtain ⟨h0, h1, _, _⟩ := lies2 (hb.below K); obtain ⟨k0, k1, _, _⟩ := lies2 (kb.below K))
    go_ret
    exact ⟨rfl, K⟩
  · go_enter Tryz.func52, Tryz.ntmps52
    go_wp2_with fail
    refine wp_loop_rounds 3 ?_
    rw [rounds_succ]
    have hcall := around_any b b1 o.a h.a o.len o.cap h.len h.cap o.pts h.pts ol hl oko okh w o0 h0 ((oP.below K).grow K.size) ((hP.below K).grow K.size)
    rw [har] at hcall
    go_wp2_with (go_at_call 70; refine hcall.mono ?_; clear hcall; rintro e v1 ⟨rfl, J⟩; replace K := bw_trans K J; clear J o0 o1 h0 h1 k0 k1; obtain ⟨o0, o1, _, _⟩ := lies2 (ob.below K); obtain ⟨h0, h1, _, _⟩ := lies2 (hb.below K); obtain ⟨k0, k1, _, _⟩ := lies2 (kb.below K))
    refine wp_loop_rounds 2 ?_
    rw [rounds_succ]
    have hcall := beside_any b1 b2 h.a k.a h.len h.cap k.len k.cap h.pts k.pts hl kl okh okk v1 h0 k0 ((hP.below K).grow K.size) ((kP.below K).grow K.size)
    rw [hbe] at hcall
    go_wp2_with (go_at_call 71; refine hcall.mono ?_; clear hcall; rintro e v2 ⟨rfl, J⟩; replace K := bw_trans K J; clear J o0 o1 h0 h1 k0 k1; obtain ⟨o0, o1, _, _⟩ := lies2 (ob.below K); obtain ⟨h0, h1, _, _⟩ := lies2 (hb.below K); obtain ⟨k0, k1, _, _⟩ := lies2 (kb.below K))
    rw [rounds_succ]
    go_wp2_with fail
    rw [rounds_succ]
    have hcall := around_any b b2 o.a k.a o.len o.cap k.len k.cap o.pts k.pts ol kl oko okk v2 o0 k0 ((oP.below K).grow K.size) ((kP.below K).grow K.size)
    rw [hak] at hcall
    go_wp2_with (go_at_call 70; refine hcall.mono ?_; clear hcall; rintro e v3 ⟨rfl, J⟩; replace K := bw_trans K J; clear J o0 o1 h0 h1 k0 k1; obtain ⟨o0, o1, _, _⟩ := lies2 (ob.below K); obtain ⟨h0, h1, _, _⟩ := lies2 (hb.below K); obtain ⟨k0, k1, _, _⟩ := lies2 (kb.below K))
    refine wp_loop_rounds 1 ?_
    rw [rounds_succ]
    go_wp2_with fail
    rw [rounds_succ]
    go_wp2_with fail
    go_ret
    exact ⟨rfl, K⟩
end Go.Proofs.YthjnfjnnpabenaaGreatDoor
namespace Go.Proofs.YthjnfjnnpabenaaGreatDoor
open Go.RowKit Go.Shelf Go.Sort
attribute [local go_sem] Oper.semAt_some

theorem holesFree_any (b : Nat) (o : RingT) (hs : List RingT) (hn : hs.length ≤ 2) (w : World) (hR : RingL w.heap.size w (some ⟨b, 0, none⟩) (o :: hs)) (hok : ((o :: hs).all fun x => okV x.pts) = true) :
    Calls Tryz.prog 52 #[.pointer (some ⟨b, 0, none⟩)] w fun e W' => e = .returned (.bool (plV o.pts (hs.map RingT.pts))) ∧ Below w.heap.size w W' := by
  match hs, hn, hR, hok with
  | [], _, hR, hok =>
    have e : plV o.pts [] = true := by simpa [plV] using hok
    rw [List.map_nil, e]
    exact holesFree_0 b o w hR
  | [h], _, hR, hok =>
    simp only [List.all_cons, List.all_nil, Bool.and_true, Bool.and_eq_true] at hok
    have e : plV o.pts ([h].map RingT.pts) = arB o.pts h.pts := by simp only [List.map_cons, List.map_nil, plV, hok.1, hok.2, Bool.true_and]
    rw [e]
    exact holesFree_1 b o h w hR hok.1 hok.2
  | [h, k], _, hR, hok =>
    simp only [List.all_cons, List.all_nil, Bool.and_true, Bool.and_eq_true] at hok
    have e : plV o.pts ([h, k].map RingT.pts) = (arB o.pts h.pts && beB h.pts k.pts && arB o.pts k.pts) := by
      simp only [List.map_cons, List.map_nil, plV, hok.1, hok.2.1, hok.2.2, Bool.true_and]
      cases arB o.pts h.pts <;> cases arB o.pts k.pts <;> cases beB h.pts k.pts <;> rfl
    rw [e]
    exact holesFree_2 b o h k w hR hok.1 hok.2.1 hok.2.2
theorem plV_notall (o : RingT) (hs : List RingT) (h : ((o :: hs).all fun x => okV x.pts) = false) : plV o.pts (hs.map RingT.pts) = false := by
  rw [Bool.eq_false_iff]
  intro hv
  have L := (plV_iff _ _).1 hv
  have : ((o :: hs).all fun x => okV x.pts) = true := by
    rw [List.all_eq_true]
    intro x hx
    rcases List.mem_cons.1 hx with e | e
    · subst e; exact L.out
    · exact L.ok _ (List.mem_map.2 ⟨x, e, rfl⟩)
  rw [h] at this; cases this
set_option maxRecDepth 100000 in
set_option maxHeartbeats 4000000 in
theorem board_many (a ah : Option Addr) (la ca nh ch : Nat) (hb : 2 < nh) (w : World) :
    Calls Tryz.prog 30 #[.agg #[.slice a la ca, .slice ah nh ch]] w fun e W' => e = .returned (.tuple #[.pointer none, .bool false]) ∧ Below w.heap.size w W' := by
  have hb' : (2 : Int) < (nh : Int) := by omega
  go_enter Tryz.func30, Tryz.ntmps30
  go_wp2_with fail
  go_ret2
  exact ⟨rfl, bw_alloc (bw_refl _) _⟩
/-- What lies in the boxes of boardOf. -/
def Chained (w : World) (a : Option Addr) (la ca : Nat) (xs : List (Option Addr × Nat × Nat)) (W : World) : Prop :=
  ∃ q, Lies (w.heap.size + 1) #[.slice a la ca, .pointer q] 61 W ∧ RingB (w.heap.size + 4) W q xs
theorem chained_own (w : World) (a : Option Addr) (la ca : Nat) (N : Nat) {β : Type} (f : β → List (Option Addr × Nat × Nat)) : OwnFrom N (fun (s : β) W => Chained w a la ca (f s) W) := fun _ X Y row ⟨q, h1, h2⟩ hg hr =>
  ⟨q, lies_own (β := Unit) _ _ _ () X Y row h1 hg (fun r e => (hr r e).2), ringB_own _ _ _ X Y row h2 hg (fun r e => (hr r e).2)⟩
theorem RingB.below {base : Nat} {W W' : World} (h : Below W.heap.size W W') : ∀ {p : Option Addr} {xs : List (Option Addr × Nat × Nat)}, RingB base W p xs → RingB base W' p xs
  | _, [], hl => hl
  | _, _ :: _, ⟨b, q, hp, hb, hl, hr⟩ => ⟨b, q, hp, hb, hl.below h, RingB.below h hr⟩
theorem pts_put {n₀ : Nat} {W : World} {a : Option Addr} {len D : Nat} {l : List P2} {o : Obj} (o' : Obj) (h : Pts n₀ W a len l) (hD : W.heap[D]? = some o) (ho : o.isCells = false) : Pts n₀ (W.putObj D o') a len l := by
  refine ⟨h.1, h.2.imp id ?_⟩
  rintro ⟨b, off, rfl, hb, hc⟩
  refine ⟨b, off, rfl, hb, fun j hj => ?_⟩
  have key : ∀ i v, W.cell? ⟨b, i, none⟩ = some v → (W.putObj D o').cell? ⟨b, i, none⟩ = some v := fun i v hv =>
    cell_kept hv (grownBy_putObj' W D o') (fun r e => by cases e; exact ⟨_, hD, ho⟩)
  exact ⟨key _ _ (hc j hj).1, key _ _ (hc j hj).2⟩
theorem ringL_put {n₀ : Nat} {W : World} (D : Nat) {o : Obj} (o' : Obj) : ∀ {p : Option Addr} {xs : List RingT}, RingL n₀ W p xs → W.heap[D]? = some o → o.isCells = false → RingL n₀ (W.putObj D o') p xs
  | _, [], hl, _, _ => hl
  | _, _ :: _, ⟨b, q, t, hp, hb, hl, hP, hr⟩, hD, ho => ⟨b, q, t, hp, hb.put o' hD ho, hl, pts_put o' hP hD ho, ringL_put D o' hr hD ho⟩
theorem setCell_2 {W : World} {b : Nat} {x y : Value} {t : TypeId} (h : Lies b #[x, y] t W) (v : Value) : Lies b #[x, v] t (W.setCell ⟨b, 1, none⟩ v) := by
  obtain ⟨hlt, hk⟩ := Array.getElem?_eq_some_iff.1 h
  show (W.heap.modify b _)[b]? = _
  rw [Array.getElem?_eq_getElem (by rw [Array.size_modify]; exact hlt), Array.getElem_modify_self, hk]
  rfl
set_option maxRecDepth 100000 in
set_option maxHeartbeats 4000000 in
theorem board_in (n : Nat) (hn : 20 ≤ n) (a ah : Option Addr) (la ca nh ch : Nat) (hb : nh ≤ 2) (A : Nat → Option Addr) (L C : Nat → Nat) (pts : List P2) (H : Nat → List P2) (hla : la ≤ 1048576) (hLL : ∀ j, j < nh → L j ≤ 1048576) (n₀ : Nat) (w : World) (hn₀ : n₀ ≤ w.heap.size)
    (hP : Pts n₀ w a la pts) (hS : SlcRow w.heap.size w ah nh A L C) (hH : ∀ j, j < nh → Pts n₀ w (A j) (L j) (H j)) (res : Value)
    (hres : Hid (res = .tuple #[.pointer (if plV pts ((List.range nh).map H) then some ⟨w.heap.size + 1, 0, none⟩ else none), .bool (plV pts ((List.range nh).map H))])) :
    CallsIn Fence.wide n Tryz.prog 30 #[.agg #[.slice a la ca, .slice ah nh ch]] w fun e W' =>
      e = .returned res ∧ Below w.heap.size w W' ∧
        RingL n₀ W' (some ⟨w.heap.size + 1, 0, none⟩) (⟨a, la, ca, pts⟩ :: (List.range nh).map fun j => ⟨A j, L j, C j, H j⟩) := by
  have h1 : 1 ≤ n := by omega
  have hb' : ¬ (2 < (nh : Int)) := by omega
  have hmx : Tryz.prog.follows .mixedOrders = true := by kernel_rfl
  refine callsIn_of_wp_marks Tryz.func30 rfl trivial ?_ rfl
  simp only [Tryz.ntmps30, List.size_toArray, List.length_cons, List.length_nil, Nat.reduceAdd, Nat.reduceSub, Array.replicate_succ, Array.replicate_zero, List.push_toArray, List.append_toArray, List.nil_append, List.cons_append]
  gi_wp2_with (refine ⟨trivial, ?_⟩; gi_at_call 50; refine (back_in (n - 1) _ _ _ _).mono ?_; rintro e w' ⟨rfl, rfl⟩)
  have L0 := (((Lies.new' w (w.heap.size) (by simp) #[.slice a la ca, .slice ah nh ch] 25).alloc (.cells #[.slice a la ca, .pointer none] 61)).alloc (.cells #[.pointer (some ⟨w.heap.size + 1, 0, none⟩)] 51)).alloc (.cells #[.slice ah nh ch] 23)
  have L1 := ((Lies.new' (w.alloc (.cells #[.slice a la ca, .slice ah nh ch] 25)) (w.heap.size + 1) (by simp) #[.slice a la ca, .pointer none] 61).alloc (.cells #[.pointer (some ⟨w.heap.size + 1, 0, none⟩)] 51)).alloc (.cells #[.slice ah nh ch] 23)
  have L2 := (Lies.new' ((w.alloc (.cells #[.slice a la ca, .slice ah nh ch] 25)).alloc (.cells #[.slice a la ca, .pointer none] 61)) (w.heap.size + 1 + 1) (by simp) #[.pointer (some ⟨w.heap.size + 1, 0, none⟩)] 51).alloc (.cells #[.slice ah nh ch] 23)
  have L3 := Lies.new' (((w.alloc (.cells #[.slice a la ca, .slice ah nh ch] 25)).alloc (.cells #[.slice a la ca, .pointer none] 61)).alloc (.cells #[.pointer (some ⟨w.heap.size + 1, 0, none⟩)] 51)) (w.heap.size + 1 + 1 + 1) (by simp) #[.slice ah nh ch] 23
  have hB0 : Below w.heap.size w ((((w.alloc (.cells #[.slice a la ca, .slice ah nh ch] 25)).alloc (.cells #[.slice a la ca, .pointer none] 61)).alloc (.cells #[.pointer (some ⟨w.heap.size + 1, 0, none⟩)] 51)).alloc (.cells #[.slice ah nh ch] 23)) := (by repeat (first | exact bw_refl _ | assumption | apply bw_drewN | apply bw_drew | apply bw_alloc | refine bw_set ?_ (by simp) _))
  have hsz : (((((w.alloc (.cells #[.slice a la ca, .slice ah nh ch] 25)).alloc (.cells #[.slice a la ca, .pointer none] 61)).alloc (.cells #[.pointer (some ⟨w.heap.size + 1, 0, none⟩)] 51)).alloc (.cells #[.slice ah nh ch] 23))).heap.size = w.heap.size + 4 := by simp
  obtain ⟨W0, hW0⟩ : ∃ W0, ((((w.alloc (.cells #[.slice a la ca, .slice ah nh ch] 25)).alloc (.cells #[.slice a la ca, .pointer none] 61)).alloc (.cells #[.pointer (some ⟨w.heap.size + 1, 0, none⟩)] 51)).alloc (.cells #[.slice ah nh ch] 23)) = W0 := ⟨_, rfl⟩
  rw [hW0] at L0 L1 L2 L3 hB0 hsz ⊢
  clear hW0
  have hst := back_stops (n - 1) (by omega) (w.heap.size + 1 + 1 + 1) w.heap.size ah nh ch A L C W0 (by omega) (by omega) (by omega) L3.c1 (hS.below hB0)
  refine wpIn_rangeFunc_ownH rfl h1 (gf := 69) (lb := #[.pointer (some ⟨w.heap.size + 1 + 1 + 1, 0, none⟩)]) rfl trivial (enters_of Tryz.func69 (by kernel_rfl) rfl)
    hst KB_t (KB_b (by omega) (by omega)) (Below.refl _ _) (fun _ => rfl)
    (fun pre W => ((Chained w a la ca (pre.reverse.map fun x => (A x.1, L x.1, C x.1)) W) ∧ Lies (w.heap.size + 1 + 1) #[.pointer (some ⟨w.heap.size + 1, 0, none⟩)] 51 W ∧ Lies (w.heap.size + 1 + 1 + 1) #[.slice ah nh ch] 23 W) ∧ Below w.heap.size w W)
    (fun _ _ _ => False)
    (OwnFrom.and (OwnFrom.and (chained_own _ _ _ _ _ _) (OwnFrom.and (lies_from _ _ _ _) (lies_from _ _ _ _))) (ownFrom_below (Nat.le_refl _) (by omega)))
    (fun c => ownFrom_pure _ _)
    ⟨⟨⟨none, L1, rfl⟩, L2, L3⟩, hB0⟩
    (fun x a' W => a' = { tmps := #[.agg #[.slice a la ca, .slice ah nh ch], .pointer (some ⟨w.heap.size, 0, none⟩), .pointer none, .bool false, .pointer (some ⟨w.heap.size + 1 + 1, 0, none⟩), undef, .slice (A x.1) (L x.1) (C x.1), .pointer (some ⟨w.heap.size, 1, none⟩), .slice ah nh ch, .int .i64 (nh : Int), .bool false, .pointer (some ⟨w.heap.size, 0, none⟩), .slice a la ca, .agg #[.slice a la ca, .pointer none], .agg #[.slice a la ca, .pointer none], .pointer (some ⟨w.heap.size + 1, 0, none⟩), .pointer (some ⟨w.heap.size, 1, none⟩), .slice ah nh ch, .func (.func 69) #[] #[.pointer (some ⟨w.heap.size + 1 + 1 + 1, 0, none⟩)], .int .i64 (x.1 : Int), .slice (A x.1) (L x.1) (C x.1), undef, undef, undef, undef, undef, undef, undef, undef, undef, undef, undef, undef, undef, undef, undef, undef, undef, undef, undef, undef, undef], defers := [] })
    (fun _ _ _ _ _ _ hs _ _ => hs)
    ?assign ?body ?done ?stop
  case assign =>
    rintro l pre x W K ⟨⟨hc, M2, M3⟩, hB1⟩ hK
    unfold encB
    gi_wp2
    exact hK _ _ (KeepsFrom.refl _ _) (KB.refl _ _ W) ⟨⟨hc, M2, M3⟩, hB1⟩ rfl
  case body =>
    rintro l pre x a' W hl ⟨r, hr⟩ ⟨⟨⟨q, M1, hq⟩, M2, M3⟩, hB1⟩ rfl hlt
    have cB := M2.c1
    obtain ⟨d0, d1, g0, g1⟩ := lies2 M1
    have h1' : 1 ≤ n - 1 - 1 := by omega
    have zW : w.heap.size + 1 + 1 + 1 < W.heap.size := M3.lt
    gi_wp2
    refine wpIn_round_held (S := (fun w' : World => w'.cell? ⟨w.heap.size + 1 + 1, 0, none⟩ = some (.pointer (some ⟨w.heap.size + 1, 0, none⟩)))) hmx (by kernel_rfl) (by rintro ⟨_, _, h⟩; exact h) ?_
    have hS1 : (fun w' : World => w'.cell? ⟨w.heap.size + 1 + 1, 0, none⟩ = some (.pointer (some ⟨w.heap.size + 1, 0, none⟩))) W.drew := cB
    refine wpAnyH_take (i := 0) (v := .pointer (some ⟨w.heap.size + 1, 0, none⟩)) rfl (by kernel_rfl) (by kernel_rfl) (by kernel_rfl) (fun _ _ _ h => h) (Or.inl ⟨by rfl, by intro w' s1; go_simp⟩) hS1 ?_
    refine wpAnyH_take (i := 1) (v := .slice (A x.1) (L x.1) (C x.1)) rfl (by kernel_rfl) (by kernel_rfl) (by kernel_rfl) (fun _ _ _ h => h) (Or.inl ⟨by rfl, by intro w' s1; go_simp⟩) hS1 ?_
    refine wpAnyH_take (i := 2) (v := .pointer (some ⟨w.heap.size + 1, 0, none⟩)) rfl (by kernel_rfl) (by kernel_rfl) (by kernel_rfl) (fun _ _ _ h => h) (Or.inl ⟨by rfl, by intro w' s1; go_simp⟩) hS1 ?_
    refine wpAnyH_take (i := 3) (v := .pointer (some ⟨w.heap.size + 1, 0, none⟩)) rfl (by kernel_rfl) (by kernel_rfl) (by kernel_rfl) (fun _ _ _ h => h) (Or.inl ⟨by rfl, by intro w' s1; go_simp⟩) hS1 ?_
    refine wpAnyH_take (i := 4) (v := .pointer (some ⟨w.heap.size + 1, 0, none⟩)) rfl (by kernel_rfl) (by kernel_rfl) (by kernel_rfl) (fun _ _ _ h => h) (Or.inl ⟨by rfl, by intro w' s1; go_simp⟩) hS1 ?_
    refine wpAnyH_take (i := 5) (v := .pointer (some ⟨w.heap.size + 1, 1, none⟩)) rfl (by kernel_rfl) (by kernel_rfl) (by kernel_rfl) (fun _ _ _ h => h) (Or.inl ⟨by rfl, by intro w' s1; go_simp⟩) hS1 ?_
    refine wpAnyH_all (rs := [6]) (by kernel_rfl) (by simp) ?_
    intro i hi
    obtain rfl : i = 6 := by simpa using hi
    refine YieldsIf.wpOp (S := fun w' => w' = W.drew) (v := .pointer q) rfl (Or.inl ⟨by rfl, by rintro w' rfl; go_simp⟩) rfl ⟨hS1, ?_⟩
    refine wpAnyH_take (i := 7) (v := .agg #[.slice (A x.1) (L x.1) (C x.1), .pointer q]) rfl (by kernel_rfl) (by kernel_rfl) (by kernel_rfl) (fun _ _ _ h => h) (Or.inl ⟨by rfl, by intro w' s1; go_simp⟩) hS1 ?_
    refine wpAnyH_all (rs := [8]) (by kernel_rfl) (by simp) ?_
    intro i hi
    obtain rfl : i = 8 := by simpa using hi
    refine wpOp_now rfl (by rfl) ?_
    go_simp
    refine ⟨(M2.alloc _).c1, ?_⟩
    have A1 := (M1.alloc (.cells #[.slice (A x.1) (L x.1) (C x.1), .pointer q] 59)).drew
    have A2 := (M2.alloc (.cells #[.slice (A x.1) (L x.1) (C x.1), .pointer q] 59)).drew
    have A3 := (M3.alloc (.cells #[.slice (A x.1) (L x.1) (C x.1), .pointer q] 59)).drew
    have AB : Below W.heap.size W ((W.alloc (.cells #[.slice (A x.1) (L x.1) (C x.1), .pointer q] 59)).drew) := (bw_alloc (bw_refl W) _).drew
    have AN : Lies W.heap.size #[.slice (A x.1) (L x.1) (C x.1), .pointer q] 59 ((W.alloc (.cells #[.slice (A x.1) (L x.1) (C x.1), .pointer q] 59)).drew) := (Lies.new W _ _).drew
    have AO : KeepsOthers W ((W.alloc (.cells #[.slice (A x.1) (L x.1) (C x.1), .pointer q] 59)).drew) := (KeepsOthers.alloc _ _).trans (KeepsOthers.drew _)
    have AK : KB w.heap.size (w.heap.size + 1 + 1 + 1) W ((W.alloc (.cells #[.slice (A x.1) (L x.1) (C x.1), .pointer q] 59)).drew) := ((KB.refl _ _ _).alloc hB1.size M3.lt _).drew
    generalize (W.alloc (.cells #[.slice (A x.1) (L x.1) (C x.1), .pointer q] 59)).drew = W2 at A1 A2 A3 AB AN AO AK ⊢
    obtain ⟨e0, e1, g0', g1'⟩ := lies2 A1
    have hS2 : (fun w' : World => w'.cell? ⟨w.heap.size + 1 + 1, 0, none⟩ = some (.pointer (some ⟨w.heap.size + 1, 0, none⟩))) W2 := A2.c1
    refine wpAnyH_take (i := 9) (v := .pointer (some ⟨w.heap.size + 1, 0, none⟩)) rfl (by kernel_rfl) (by kernel_rfl) (by kernel_rfl) (fun _ _ _ h => h) (Or.inl ⟨by rfl, by intro w' s1; go_simp⟩) hS2 ?_
    refine wpAnyH_take (i := 10) (v := .pointer (some ⟨w.heap.size + 1, 0, none⟩)) rfl (by kernel_rfl) (by kernel_rfl) (by kernel_rfl) (fun _ _ _ h => h) (Or.inl ⟨by rfl, by intro w' s1; go_simp⟩) hS2 ?_
    refine wpAnyH_take (i := 11) (v := .pointer (some ⟨w.heap.size + 1, 1, none⟩)) rfl (by kernel_rfl) (by kernel_rfl) (by kernel_rfl) (fun _ _ _ h => h) (Or.inl ⟨by rfl, by intro w' s1; go_simp⟩) hS2 ?_
    refine wpAnyH_all (rs := [12]) (by kernel_rfl) (by simp) ?_
    intro i hi
    obtain rfl : i = 12 := by simpa using hi
    refine wpOp_now rfl (by rfl) ?_
    go_simp
    refine wpAnyH_done (by kernel_rfl) ?_ _
    have hq2 : RingB (w.heap.size + 4) W2 (some ⟨W.heap.size, 0, none⟩) ((A x.1, L x.1, C x.1) :: pre.reverse.map fun x => (A x.1, L x.1, C x.1)) :=
      ⟨W.heap.size, q, rfl, by omega, AN, hq.below AB⟩
    exact ⟨(AO.trans (KeepsOthers.setCell _ _ _)).from _, AK.setCell (by simp) (by simp; omega) _,
      ⟨⟨some ⟨W.heap.size, 0, none⟩, setCell_2 A1 _, by rw [List.reverse_append]; exact hq2.other 1 _ (by omega)⟩, A2.other' (by omega) _, A3.other' (by omega) _⟩, bw_set (bw_trans hB1 AB) (by simp) _⟩
  case done =>
    rintro D zs W hD rfl ⟨⟨⟨q, M1, hq⟩, M2, M3⟩, hB1⟩ hK
    rw [List.reverse_reverse] at hq
    have cB := M2.c1
    have hR0 : RingL n₀ W (some ⟨w.heap.size + 1, 0, none⟩) (⟨a, la, ca, pts⟩ :: (List.range nh).map fun j => ⟨A j, L j, C j, H j⟩) := by
      refine ⟨_, q, _, rfl, M1, hla, hP.below (hB1.mono hn₀), ?_⟩
      refine RingB.rings (base := w.heap.size + 4) ?_ ?_
      · rw [List.map_map]
        have e : ((List.finRange nh).map fun x => (A x.1, L x.1, C x.1)) = (List.range nh).map ((fun x : RingT => (x.a, x.len, x.cap)) ∘ fun j => (⟨A j, L j, C j, H j⟩ : RingT)) := by
          have := fin_map' nh (fun j => (A j, L j, C j))
          rw [this]; rfl
        rw [← e]; exact hq
      · intro x hx
        obtain ⟨j, hj, rfl⟩ := List.mem_map.1 hx
        have hj' := List.mem_range.1 hj
        exact ⟨hLL j hj', (hH j hj').below (hB1.mono hn₀)⟩
    have zhB := hB1.size
    have hR := hR0.grow (show n₀ ≤ W.heap.size by omega)
    have hcA := allLoops_any _ _ W hR
    have hpts : ((List.range nh).map fun j => (⟨A j, L j, C j, H j⟩ : RingT)).map RingT.pts = (List.range nh).map H := by rw [List.map_map]; rfl
    cases hall : ((⟨a, la, ca, pts⟩ :: (List.range nh).map fun j => (⟨A j, L j, C j, H j⟩ : RingT)).all fun x => okV x.pts)
    · rw [hall] at hcA
      have hv : plV pts ((List.range nh).map H) = false := by have := plV_notall _ _ hall; rwa [hpts] at this
      gi_wp2_with (refine ⟨trivial, ?_⟩; gi_at_call 51; refine (callsIn_wide.2 hcA).mono ?_; rintro e v ⟨rfl, J⟩)
      refine ⟨trivial, ?_⟩
      gi_wp2
      have hK' : v.heap[D]? = some (.deferred (some [])) := keep J hK
      refine ⟨by simp, .inl ⟨_, _, rfl, run_takeDeferred hK', ?_⟩⟩
      have BD := belowK_b (w := w) (Nat.le_refl _) v D _ (.deferred none) (by omega) hK' rfl rfl
      refine ⟨.tuple #[.pointer none, .bool false], ?_, ?_, (bw_trans hB1 J).trans BD, ?_⟩
      · simp [results, Tryz.f30, go_sem]
      · rw [hres.out, hv]; rfl
      · exact ringL_put D _ (hR0.below J (by omega)) hK' rfl
    · rw [hall] at hcA
      have hcF : Hid (∀ v, Below W.heap.size W v → Calls Tryz.prog 52 #[.pointer (some ⟨w.heap.size + 1, 0, none⟩)] v fun e W' => e = .returned (.bool (plV pts ((List.range nh).map H))) ∧ Below v.heap.size v W') := fun v J => by
        have := holesFree_any _ _ _ (by simpa using hb) v ((hR.below J (Nat.le_refl _)).grow J.size) hall
        rwa [hpts] at this
      cases hv : plV pts ((List.range nh).map H)
      · rw [hv] at hcF
        gi_wp2_with (first | (refine ⟨trivial, ?_⟩; gi_at_call 51; refine (callsIn_wide.2 hcA).mono ?_; rintro e v1 ⟨rfl, J1⟩; have cB1 := (M2.below J1).c1) | (refine ⟨trivial, ?_⟩; gi_at_call 52; refine (callsIn_wide.2 (hcF.out _ J1)).mono ?_; rintro e v ⟨rfl, J2⟩; have J := bw_trans J1 J2))
        have hK' : v.heap[D]? = some (.deferred (some [])) := keep J hK
        refine ⟨by simp, .inl ⟨_, _, rfl, run_takeDeferred hK', ?_⟩⟩
        have BD := belowK_b (w := w) (Nat.le_refl _) v D _ (.deferred none) (by omega) hK' rfl rfl
        refine ⟨.tuple #[.pointer none, .bool false], ?_, ?_, (bw_trans hB1 J).trans BD, ?_⟩
        · simp [results, Tryz.f30, go_sem]
        · rw [hres.out, hv]; rfl
        · exact ringL_put D _ (hR0.below J (by omega)) hK' rfl
      · rw [hv] at hcF
        gi_wp2_with (first | (refine ⟨trivial, ?_⟩; gi_at_call 51; refine (callsIn_wide.2 hcA).mono ?_; rintro e v1 ⟨rfl, J1⟩; have cB1 := (M2.below J1).c1) | (refine ⟨trivial, ?_⟩; gi_at_call 52; refine (callsIn_wide.2 (hcF.out _ J1)).mono ?_; rintro e v ⟨rfl, J2⟩; have J := bw_trans J1 J2; have cB2 := (M2.below J).c1))
        have hK' : v.heap[D]? = some (.deferred (some [])) := keep J hK
        refine ⟨by simp, .inl ⟨_, _, rfl, run_takeDeferred hK', ?_⟩⟩
        have BD := belowK_b (w := w) (Nat.le_refl _) v D _ (.deferred none) (by omega) hK' rfl rfl
        refine ⟨.tuple #[.pointer (some ⟨w.heap.size + 1, 0, none⟩), .bool true], ?_, ?_, (bw_trans hB1 J).trans BD, ?_⟩
        · simp [results, Tryz.f30, go_sem]
        · rw [hres.out, hv]; rfl
        · exact ringL_put D _ (hR0.below J (by omega)) hK' rfl
  case stop =>
    rintro D c pre W hD hpre h hK
    exact h.elim
/-- A plate, where it lies. -/
def Plt (W : World) (a : Option Addr) (la : Nat) (ah : Option Addr) (nh : Nat) (o : List P2) (hs : List (List P2)) : Prop :=
  la ≤ 1048576 ∧ Pts W.heap.size W a la o ∧ hs.length = nh ∧ ∃ (A : Nat → Option Addr) (L C : Nat → Nat), SlcRow W.heap.size W ah nh A L C ∧ ∀ j, j < nh → L j ≤ 1048576 ∧ Pts W.heap.size W (A j) (L j) (hs[j]?.getD [])
theorem Plt.below {W W' : World} {a ah : Option Addr} {la nh : Nat} {o : List P2} {hs : List (List P2)} (h : Plt W a la ah nh o hs) (J : Below W.heap.size W W') : Plt W' a la ah nh o hs := by
  obtain ⟨h1, h2, h3, A, L, C, h4, h5⟩ := h
  exact ⟨h1, (h2.below J).grow J.size, h3, A, L, C, (h4.below J).grow J.size, fun j hj => ⟨(h5 j hj).1, ((h5 j hj).2.below J).grow J.size⟩⟩
theorem range_get {α : Type} (hs : List α) (d : α) : ((List.range hs.length).map fun j => hs[j]?.getD d) = hs := by
  apply List.ext_getElem
  · simp
  · intro i h1 h2
    have h3 : i < hs.length := h2
    simp [h3]
/-- A plate whose points lie below n₀. -/
def PltB (n₀ : Nat) (W : World) (a : Option Addr) (la : Nat) (ah : Option Addr) (nh : Nat) (o : List P2) (hs : List (List P2)) : Prop :=
  la ≤ 1048576 ∧ Pts n₀ W a la o ∧ hs.length = nh ∧ ∃ (A : Nat → Option Addr) (L C : Nat → Nat), SlcRow W.heap.size W ah nh A L C ∧ ∀ j, j < nh → L j ≤ 1048576 ∧ Pts n₀ W (A j) (L j) (hs[j]?.getD [])
theorem Plt.base {W W' : World} {a ah : Option Addr} {la nh : Nat} {o : List P2} {hs : List (List P2)} (h : Plt W a la ah nh o hs) (J : Below W.heap.size W W') : PltB W.heap.size W' a la ah nh o hs := by
  obtain ⟨h1, h2, h3, A, L, C, h4, h5⟩ := h
  exact ⟨h1, h2.below J, h3, A, L, C, (h4.below J).grow J.size, fun j hj => ⟨(h5 j hj).1, (h5 j hj).2.below J⟩⟩
/-- boardOf, at every plate; the points of its loops lie where they lay. -/
theorem board_any0 (a ah : Option Addr) (la ca nh ch : Nat) (o : List P2) (hs : List (List P2)) (n₀ : Nat) (w : World) (hn₀ : n₀ ≤ w.heap.size) (h : PltB n₀ w a la ah nh o hs) :
    Calls Tryz.prog 30 #[.agg #[.slice a la ca, .slice ah nh ch]] w fun e W' => ∃ p : Option Addr, e = .returned (.tuple #[.pointer p, .bool (plV o hs)]) ∧ Below w.heap.size w W' ∧
      (plV o hs = true → ∃ b xs, p = some ⟨b, 0, none⟩ ∧ RingL n₀ W' (some ⟨b, 0, none⟩) (⟨a, la, ca, o⟩ :: xs) ∧ xs.map RingT.pts = hs) := by
  obtain ⟨h1, h2, rfl, A, L, C, h4, h5⟩ := h
  by_cases hb : 2 < hs.length
  · have hv : plV o hs = false := by
      rw [Bool.eq_false_iff]; intro hc
      have := plV_len hc; omega
    refine (board_many a ah la ca hs.length ch hb w).mono ?_
    rintro e W' ⟨rfl, J⟩
    exact ⟨none, by rw [hv], J, fun h => by rw [hv] at h; cases h⟩
  · refine (callsIn_wide.1 (board_in 20 (Nat.le_refl _) a ah la ca hs.length ch (by omega) A L C o (fun j => hs[j]?.getD []) h1 (fun j hj => (h5 j hj).1) n₀ w hn₀ h2 h4 (fun j hj => (h5 j hj).2) _ rfl)).mono ?_
    rintro e W' ⟨rfl, J, hR⟩
    rw [range_get]
    refine ⟨_, rfl, J, fun hv => ⟨w.heap.size + 1, _, by rw [if_pos hv], hR, ?_⟩⟩
    rw [List.map_map]
    exact range_get hs []
/-- boardOf, at every plate. -/
theorem board_any (a ah : Option Addr) (la ca nh ch : Nat) (o : List P2) (hs : List (List P2)) (w : World) (h : Plt w a la ah nh o hs) :
    Calls Tryz.prog 30 #[.agg #[.slice a la ca, .slice ah nh ch]] w fun e W' => ∃ p : Option Addr, e = .returned (.tuple #[.pointer p, .bool (plV o hs)]) ∧ Below w.heap.size w W' ∧
      (plV o hs = true → ∃ b xs, p = some ⟨b, 0, none⟩ ∧ RingL W'.heap.size W' (some ⟨b, 0, none⟩) (⟨a, la, ca, o⟩ :: xs) ∧ xs.map RingT.pts = hs) := by
  refine (board_any0 a ah la ca nh ch o hs w.heap.size w (Nat.le_refl _) (h.base (bw_refl _))).mono ?_
  rintro e W' ⟨p, rfl, J, hR⟩
  exact ⟨p, rfl, J, fun hv => by
    obtain ⟨b, xs, e1, e2, e3⟩ := hR hv
    exact ⟨b, xs, e1, e2.grow J.size, e3⟩⟩
end Go.Proofs.YthjnfjnnpabenaaGreatDoor
namespace Go.Proofs.YthjnfjnnpabenaaGreatDoor
open Go.RowKit Go.Sort

theorem sApart_pts (a1 a2 : Option Addr) (len1 cap1 len2 cap2 : Nat) (l1 l2 : List P2) (ok1 : okV l1 = true) (ok2 : okV l2 = true) (w : World) (hP1 : Pts w.heap.size w a1 len1 l1) (hP2 : Pts w.heap.size w a2 len2 l2) :
    Calls Tryz.prog 43 #[.slice a1 len1 cap1, .slice a2 len2 cap2] w fun e w' => e = .returned (.bool (apL l1 l2)) ∧ Below w.heap.size w w' := by
  have h1 := okV_pos ok1
  have h2 := okV_pos ok2
  obtain ⟨e1, c1⟩ := hP1
  obtain ⟨e2, c2⟩ := hP2
  rcases c1 with h0 | ⟨b1, off1, rfl, hb1, hc1⟩
  · omega
  rcases c2 with h0 | ⟨b2, off2, rfl, hb2, hc2⟩
  · omega
  exact sApart_ok b1 off1 len1 cap1 b2 off2 len2 cap2 l1 l2 ok1 ok2 e1 e2 w hb1 hb2 hc1 hc2
theorem sInI_pts (a1 : Option Addr) (len1 cap1 : Nat) (l1 : List P2) (p : P2) (ok1 : okV l1 = true) (hp : ptB p.1 p.2 = true) (w : World) (hP1 : Pts w.heap.size w a1 len1 l1) :
    Calls Tryz.prog 42 #[.slice a1 len1 cap1, .agg #[.int .i64 p.1, .int .i64 p.2]] w fun e w' => e = .returned (.int .i64 (inI l1 p)) ∧ Below w.heap.size w w' := by
  have h1 := okV_pos ok1
  obtain ⟨e1, c1⟩ := hP1
  rcases c1 with h0 | ⟨b1, off1, rfl, hb1, hc1⟩
  · omega
  exact sInI_ok b1 off1 len1 cap1 l1 p ok1 hp e1 w hb1 hc1
/-- So many holes lie as they must. -/
def Upto (o : List P2) (hs : List (List P2)) (k : Nat) : Prop := ∀ i, i < k → okV (hs[i]?.getD []) = true ∧ arB o (hs[i]?.getD []) = true ∧ ∀ j, j < i → beB (hs[i]?.getD []) (hs[j]?.getD []) = true
theorem upto_yes {o : List P2} {hs : List (List P2)} (h0 : okV o = true) (hn : hs.length ≤ 2) (h : Upto o hs hs.length) : plV o hs = true := by
  refine (plV_iff o hs).2 ⟨h0, hn, ?_, ?_, ?_⟩
  · intro x hx
    obtain ⟨i, hi, rfl⟩ := List.getElem_of_mem hx
    have := (h i hi).1
    rwa [List.getElem?_eq_getElem hi, Option.getD_some] at this
  · intro x hx
    obtain ⟨i, hi, rfl⟩ := List.getElem_of_mem hx
    have := (h i hi).2.1
    rwa [List.getElem?_eq_getElem hi, Option.getD_some] at this
  · intro i k hik hk
    rw [beB_comm]; exact (h k hk).2.2 i hik
theorem upto_all' {o : List P2} {hs : List (List P2)} (h : plV o hs = true) : Upto o hs hs.length := by
  have L := (plV_iff o hs).1 h
  intro i hi
  have hm : hs[i]?.getD [] ∈ hs := by rw [List.getElem?_eq_getElem hi, Option.getD_some]; exact List.getElem_mem hi
  exact ⟨L.ok _ hm, L.ar _ hm, fun j hj => by rw [beB_comm]; exact L.be j i hj hi⟩
set_option maxRecDepth 100000 in
set_option maxHeartbeats 8000000 in
theorem sPlateOk_any (a ah : Option Addr) (la ca nh ch : Nat) (o : List P2) (hs : List (List P2)) (w : World) (h : Plt w a la ah nh o hs) :
    Calls Tryz.prog 20 #[.agg #[.slice a la ca, .slice ah nh ch]] w fun e W' => e = .returned (.bool (plV o hs)) ∧ Below w.heap.size w W' := by
  obtain ⟨W, hW, BW, T⟩ : ∃ W, W = w.alloc (.cells #[.slice a la ca, .slice ah nh ch] 25) ∧ Below w.heap.size w W ∧ W.heap[w.heap.size]? = some (.cells #[.slice a la ca, .slice ah nh ch] 25) := ⟨_, rfl, (by repeat (first | exact bw_refl _ | assumption | apply bw_drewN | apply bw_drew | apply bw_alloc | refine bw_set ?_ (by simp) _)), heap_new _ _⟩
  replace h := h.below BW
  have hla := h.1
  have hP := h.2.1
  have hcall := sOk_any a la ca o hla W hP
  obtain ⟨t0, t1⟩ := blk_2 T
  have zT := blk_lt T
  cases hok : okV o
  · rw [hok] at hcall
    have e1 : Hid (plV o hs = false) := by
      change _ = _; rw [Bool.eq_false_iff]; intro hc
      rw [((plV_iff o hs).1 hc).out] at hok; cases hok
    go_enter Tryz.func20, Tryz.ntmps20
    go_upto_region 1 with fail
    rw [← hW]
    clear hW
    go_wp2_with (go_at_call 41; refine hcall.mono ?_; rintro e v ⟨rfl, J⟩)
    go_ret
    exact ⟨ret_bool e1.out.symm, bw_trans BW J⟩
  rw [hok] at hcall
  by_cases hb : 2 < nh
  · have hb' : (2 : Int) < (nh : Int) := by omega
    have e1 : Hid (plV o hs = false) := by
      change _ = _; rw [Bool.eq_false_iff]; intro hc
      have := plV_len hc; have := h.2.2.1; omega
    go_enter Tryz.func20, Tryz.ntmps20
    go_upto_region 1 with fail
    rw [← hW]
    clear hW
    go_wp2_with (go_at_call 41; refine hcall.mono ?_; rintro e v ⟨rfl, J⟩; obtain ⟨t0', t1'⟩ := blk_2 (keep J T))
    go_ret
    exact ⟨ret_bool e1.out.symm, bw_trans BW J⟩
  have hb' : ¬ (2 : Int) < (nh : Int) := by omega
  obtain ⟨_, _, hlen, A, L, C, hS, hH⟩ := h
  have HL : Hid (hs.length = nh) := hlen
  have hfin : Hid (Upto o hs nh → plV o hs = true) := fun hu => upto_yes hok (by omega) (by rw [hlen]; exact hu)
  have hno : Hid (∀ i, i < nh → (okV (hs[i]?.getD []) = true → arB o (hs[i]?.getD []) = true → ∃ j, j < i ∧ beB (hs[i]?.getD []) (hs[j]?.getD []) = false) → plV o hs = false) := fun i hi hc => by
    rw [Bool.eq_false_iff]; intro hv
    have hu := upto_all' hv i (by omega)
    obtain ⟨j, hj, e⟩ := hc hu.1 hu.2.1
    rw [hu.2.2 j hj] at e; cases e
  have hokH : Hid (okV o = true) := hok
  have hPt : Hid (∀ l : List P2, okV l = true → ptB (ptAt l 0).1 (ptAt l 0).2 = true ∧ 3 ≤ l.length) := fun l hl => ⟨by have := okV_pos hl; exact (sgP_pt (((okV_iff l).1 hl).seg 0 (by omega))).1, (okV_pos hl).1⟩
  clear hlen hok
  go_enter Tryz.func20, Tryz.ntmps20
  go_upto_region 1 with fail
  rw [← hW]
  clear hW
  go_wp2_with (go_at_call 41; refine hcall.mono ?_; rintro e v ⟨rfl, J⟩; obtain ⟨t0', t1'⟩ := blk_2 (keep J T))
  replace T := keep J T
  replace hP := (hP.below J).grow J.size
  replace hS := (hS.below J).grow J.size
  replace hH : ∀ j, j < nh → L j ≤ 1048576 ∧ Pts v.heap.size v (A j) (L j) (hs[j]?.getD []) := fun j hj => ⟨(hH j hj).1, ((hH j hj).2.below J).grow J.size⟩
  have K := bw_trans BW J
  clear hcall t0 t1 t0' t1' zT J
  go_loopw [3] (fun i wr => ∃ k : Nat, k ≤ nh ∧ i = .int .i64 k ∧ Upto o hs k ∧ Below v.heap.size v wr) (fun i _ => nh - (intOf i).toNat)
  case atStart => exact ⟨0, Nat.zero_le _, rfl, fun i hi => by omega, bw_refl _⟩
  case round =>
    obtain ⟨i, hi, rfl, hu, hnx⟩ := hrel
    obtain ⟨t0, t1⟩ := blk_2 (keep hnx T)
    have zT := blk_lt (keep hnx T)
    by_cases hlt : i < nh
    case neg =>
      obtain rfl : i = nh := by omega
      have e1 : Hid (plV o hs = true) := hfin.out hu
      clear hu
      go_wp2_with fail
      go_ret
      exact ⟨ret_bool e1.out.symm, bw_trans K hnx⟩
    case pos =>
      rcases hS.below hnx with h0 | ⟨b, off, rfl, hbl, hcs⟩
      · omega
      have c0 := hcs i hlt
      have i0 : (0 : Int) ≤ (i : Int) := Int.natCast_nonneg _
      have i1 : (i : Int) < (nh : Int) := by omega
      obtain ⟨hLi, hPi⟩ := hH i hlt
      have hPw := (hP.below hnx).grow hnx.size
      have hPiw := (hPi.below hnx).grow hnx.size
      have HO : Hid (∀ d os, Calls Tryz.prog 41 #[.slice (A i) (L i) (C i)] (grow (redrawn wr d) os) fun e W' => e = .returned (.bool (okV (hs[i]?.getD []))) ∧ Below (grow (redrawn wr d) os).heap.size (grow (redrawn wr d) os) W') := fun d os =>
        sOk_any (A i) (L i) (C i) _ hLi _ ((hPiw.below (below_regrown wr d os)).grow (below_regrown wr d os).size)
      obtain ⟨hh, hhe⟩ : ∃ hh, hs[i]?.getD [] = hh := ⟨_, rfl⟩
      have HE : Hid (hs[i]?.getD [] = hh) := hhe
      rw [hhe] at HO hPi hPiw
      have hnoi := hno.out i hlt
      rw [hhe] at hnoi
      clear hhe
      obtain ⟨u0, u1⟩ := reg_2 (keep hnx T)
      have c0r := cell_regrown c0
      cases hokh : okV hh
      · have e1 : Hid (plV o hs = false) := hnoi (fun e => by rw [hokh] at e; cases e)
        rw [hokh] at HO
        clear hu hnoi
        go_wp2_with fail
        refine wp_region_quiet_below (by kernel_rfl) (by kernel_rfl) ?_
        repeat (first | go_big_quiet_step (first | (go_at_call 41; with_reducible exact Calls.regrown_of (HO.out _ _))))
        refine wpQuiet_nil ?_
        intro _ hw'
        obtain ⟨⟨dq, osq⟩, hw''⟩ := hw'
        subst hw''
        have J := below_regrown wr dq osq
        generalize grow (redrawn wr dq) osq = v2 at J ⊢
        go_wp2_with fail
        go_ret
        exact ⟨ret_bool e1.out.symm, bw_trans (bw_trans K hnx) J⟩
      rw [hokh] at HO
      have hpt := hPt.out hh hokh
      have HI : Hid (∀ d os, Calls Tryz.prog 42 #[.slice a la ca, .agg #[.int .i64 (ptAt hh 0).1, .int .i64 (ptAt hh 0).2]] (grow (redrawn wr d) os) fun e W' => e = .returned (.int .i64 (inI o (ptAt hh 0))) ∧ Below (grow (redrawn wr d) os).heap.size (grow (redrawn wr d) os) W') := fun d os =>
        sInI_pts a la ca o (ptAt hh 0) hokH.out hpt.1 _ ((hPw.below (below_regrown wr d os)).grow (below_regrown wr d os).size)
      have HA : Hid (∀ d os, Calls Tryz.prog 43 #[.slice a la ca, .slice (A i) (L i) (C i)] (grow (redrawn wr d) os) fun e W' => e = .returned (.bool (apL o hh)) ∧ Below (grow (redrawn wr d) os).heap.size (grow (redrawn wr d) os) W') := fun d os =>
        sApart_pts a (A i) la ca (L i) (C i) o hh hokH.out hokh _ ((hPw.below (below_regrown wr d os)).grow (below_regrown wr d os).size) ((hPiw.below (below_regrown wr d os)).grow (below_regrown wr d os).size)
      have hLi3 : 3 ≤ L i := by have := hpt.2; have := hPi.1; omega
      obtain ⟨bi, offi, hai, hbi, f0, f1⟩ := pts_first hPiw (by omega)
      have f0r := cell_regrown f0
      have f1r := cell_regrown f1
      rw [hai] at HO HA c0r
      have p1 : (0 : Int) < (L i : Int) := by omega
      have har : Hid (arB o hh = ((inI o (ptAt hh 0) == 1) && apL o hh)) := by
        change _ = _; unfold arB; rw [Bool.and_comm]; congr 1
      have hq0 : Hid (ptB (ptAt hh 0).1 (ptAt hh 0).2 = true) := hpt.1
      obtain ⟨qq, hqq⟩ : ∃ qq, ptAt hh 0 = qq := ⟨_, rfl⟩
      have HQ : Hid (ptAt hh 0 = qq) := hqq
      rw [hqq] at HI f0r f1r har hq0
      clear hqq f0 f1 hpt
      generalize inI o qq = u at HI har
      cases hu1 : u == 1
      · have hne : (u != 1) = true := by simp only [bne, hu1, Bool.not_false]
        have e1 : Hid (plV o hs = false) := hnoi (fun _ e => by rw [har.out, hu1] at e; cases e)
        clear hu hnoi har
        go_wp2_with fail
        refine wp_region_quiet_below (by kernel_rfl) (by kernel_rfl) ?_
        repeat (first | go_big_quiet_step (first | (go_at_call 41; with_reducible exact Calls.regrown_of (HO.out _ _)) | (go_at_call 42; with_reducible exact Calls.regrown_of (HI.out _ _))))
        refine wpQuiet_nil ?_
        intro _ hw'
        obtain ⟨⟨dq, osq⟩, hw''⟩ := hw'
        subst hw''
        have J := below_regrown wr dq osq
        generalize grow (redrawn wr dq) osq = v2 at J ⊢
        go_wp2_with fail
        go_ret
        exact ⟨ret_bool e1.out.symm, bw_trans (bw_trans K hnx) J⟩
      obtain rfl : u = 1 := by simpa using hu1
      cases hap : apL o hh
      · have e1 : Hid (plV o hs = false) := hnoi (fun _ e => by rw [har.out, hap] at e; cases e)
        rw [hap] at HA
        clear hu hnoi har hap
        go_wp2_with fail
        refine wp_region_quiet_below (by kernel_rfl) (by kernel_rfl) ?_
        repeat (first | go_big_quiet_step (first | (go_at_call 41; with_reducible exact Calls.regrown_of (HO.out _ _)) | (go_at_call 42; with_reducible exact Calls.regrown_of (HI.out _ _)) | (go_at_call 43; with_reducible exact Calls.regrown_of (HA.out _ _))))
        refine wpQuiet_nil ?_
        intro _ hw'
        obtain ⟨⟨dq, osq⟩, hw''⟩ := hw'
        subst hw''
        have J := below_regrown wr dq osq
        generalize grow (redrawn wr dq) osq = v2 at J ⊢
        go_wp2_with fail
        go_ret
        exact ⟨ret_bool e1.out.symm, bw_trans (bw_trans K hnx) J⟩
      rw [hap] at HA
      have haro : Hid (arB o hh = true) := by change _ = _; rw [har.out, hap]; rfl
      have hokhH : Hid (okV hh = true) := hokh
      have huH : Hid (Upto o hs i) := hu
      have hnoiH : Hid (∀ j, j < i → beB hh (hs[j]?.getD []) = false → plV o hs = false) := fun j hj e => hnoi (fun _ _ => ⟨j, hj, e⟩)
      clear hu hnoi har hap hokh
      go_wp2_with fail
      refine wp_region_quiet_below (by kernel_rfl) (by kernel_rfl) ?_
      repeat (first | go_big_quiet_step (first | (go_at_call 41; with_reducible exact Calls.regrown_of (HO.out _ _)) | (go_at_call 42; with_reducible exact Calls.regrown_of (HI.out _ _)) | (go_at_call 43; with_reducible exact Calls.regrown_of (HA.out _ _))))
      refine wpQuiet_nil ?_
      intro _ hw'
      obtain ⟨⟨dq, osq⟩, hw''⟩ := hw'
      subst hw''
      have J := below_regrown wr dq osq
      generalize grow (redrawn wr dq) osq = v2 at J ⊢
      have hn2 := bw_trans hnx J
      clear J HO HI HA c0r f0r f1r u0 u1 t0 t1 zT hcs c0
      go_wp2_with fail
      go_loopw [5] (fun k wr => ∃ k' : Nat, k' ≤ i ∧ k = .int .i64 k' ∧ (∀ j, j < k' → beB hh (hs[j]?.getD []) = true) ∧ Below v.heap.size v wr) (fun k _ => i - (intOf k).toNat)
      case atStart => exact ⟨0, Nat.zero_le _, rfl, fun j hj => by omega, hn2⟩
      case round =>
        obtain ⟨k, hk, rfl, hrow, hny⟩ := hrel
        by_cases hlt2 : k < i
        case neg =>
          obtain rfl : k = i := by omega
          have hup : Hid (Upto o hs (k + 1)) := fun j hj => by
            rcases Nat.lt_or_ge j k with h | h
            · exact huH.out j h
            · obtain rfl : j = k := by omega
              rw [HE.out]; exact ⟨hokhH.out, haro.out, hrow⟩
          clear hrow
          go_wp2_with fail
          go_roundw
          case rel => exact ⟨k + 1, by omega, by simp, hup.out, hny⟩
          case measure => simp [intOf]; omega
        case pos =>
          obtain ⟨t0, t1⟩ := blk_2 (keep hny T)
          have zT := blk_lt (keep hny T)
          rcases hS.below hny with h0 | ⟨b', off', hbo, hbl', hcs⟩
          · omega
          cases hbo
          have ck := hcs k (by omega)
          clear hcs
          have j0 : (0 : Int) ≤ (k : Int) := Int.natCast_nonneg _
          have j1 : (k : Int) < (nh : Int) := by omega
          obtain ⟨hLk, hPk⟩ := hH k (by omega)
          have hokk := (huH.out k hlt2).1
          have hnok := hnoiH.out k hlt2
          have hrow' : Hid (beB hh (hs[k]?.getD []) = true → ∀ j, j < k + 1 → beB hh (hs[j]?.getD []) = true) := fun e j hj => by
            rcases Nat.lt_or_ge j k with h | h
            · exact hrow j h
            · obtain rfl : j = k := by omega
              exact e
          clear hrow
          generalize hs[k]?.getD [] = hk2 at hPk hokk hnok hrow'
          have hPkw := (hPk.below hny).grow hny.size
          have hPiw' := (hPi.below hny).grow hny.size
          have hpt2 := hPt.out hk2 hokk
          have hLk3 : 3 ≤ L k := by have := hpt2.2; have := hPk.1; omega
          have hI1 : Hid (∀ d os, Calls Tryz.prog 42 #[.slice (A k) (L k) (C k), .agg #[.int .i64 qq.1, .int .i64 qq.2]] (grow (redrawn wr d) os) fun e W' => e = .returned (.int .i64 (inI hk2 qq)) ∧ Below (grow (redrawn wr d) os).heap.size (grow (redrawn wr d) os) W') := fun d os =>
            sInI_pts (A k) (L k) (C k) hk2 qq hokk hq0.out _ ((hPkw.below (below_regrown wr d os)).grow (below_regrown wr d os).size)
          have hI2 : Hid (∀ d os, Calls Tryz.prog 42 #[.slice (A i) (L i) (C i), .agg #[.int .i64 (ptAt hk2 0).1, .int .i64 (ptAt hk2 0).2]] (grow (redrawn wr d) os) fun e W' => e = .returned (.int .i64 (inI hh (ptAt hk2 0))) ∧ Below (grow (redrawn wr d) os).heap.size (grow (redrawn wr d) os) W') := fun d os =>
            sInI_pts (A i) (L i) (C i) hh (ptAt hk2 0) hokhH.out hpt2.1 _ ((hPiw'.below (below_regrown wr d os)).grow (below_regrown wr d os).size)
          have HA1 : Hid (∀ d os, Calls Tryz.prog 43 #[.slice (A i) (L i) (C i), .slice (A k) (L k) (C k)] (grow (redrawn wr d) os) fun e W' => e = .returned (.bool (apL hh hk2)) ∧ Below (grow (redrawn wr d) os).heap.size (grow (redrawn wr d) os) W') := fun d os =>
            sApart_pts (A i) (A k) (L i) (C i) (L k) (C k) hh hk2 hokhH.out hokk _ ((hPiw'.below (below_regrown wr d os)).grow (below_regrown wr d os).size) ((hPkw.below (below_regrown wr d os)).grow (below_regrown wr d os).size)
          obtain ⟨bi2, offi2, hai2, hbi2, f0, f1⟩ := pts_first hPiw' (by omega)
          obtain ⟨bk, offk, hak, hbk, g0, g1⟩ := pts_first hPkw (by omega)
          have f0r := cell_regrown f0
          have f1r := cell_regrown f1
          have g0r := cell_regrown g0
          have g1r := cell_regrown g1
          have ckr := cell_regrown ck
          obtain ⟨u0, u1⟩ := reg_2 (keep hny T)
          rw [hai] at hai2
          cases hai2
          rw [hai] at hI2 HA1
          rw [hak] at hI1 HA1 ckr
          rw [HQ.out] at f0r f1r
          have p2 : (0 : Int) < (L k : Int) := by omega
          have hbe : Hid (beB hh hk2 = (apL hh hk2 && (inI hk2 qq == -1) && (inI hh (ptAt hk2 0) == -1))) := by
            change _ = _; rw [Bool.eq_iff_iff, beB_iff, HQ.out]; simp only [Bool.and_eq_true, beq_iff_eq]
            constructor
            · rintro ⟨h1, h2, h3⟩; exact ⟨⟨h1, h3⟩, h2⟩
            · rintro ⟨⟨h1, h2⟩, h3⟩; exact ⟨h1, h3, h2⟩
          generalize inI hk2 qq = v1 at hI1 hbe
          generalize inI hh (ptAt hk2 0) = v3 at hI2 hbe
          generalize ptAt hk2 0 = q3 at *
          clear f0 f1 g0 g1 ck t0 t1
          cases hap : apL hh hk2
          · rw [hap] at HA1
            have e1 : Hid (plV o hs = false) := hnok (by rw [hbe.out, hap]; rfl)
            clear hnok hbe hrow' hap
            go_wp2_with fail
            refine wp_region_quiet_below (by kernel_rfl) (by kernel_rfl) ?_
            repeat (first | go_big_quiet_step (first | (go_at_call 43; with_reducible exact Calls.regrown_of (HA1.out _ _))))
            refine wpQuiet_nil ?_
            intro _ hw'
            obtain ⟨⟨dq, osq⟩, hw''⟩ := hw'
            subst hw''
            have J := below_regrown wr dq osq
            generalize grow (redrawn wr dq) osq = v4 at J ⊢
            go_wp2_with fail
            go_ret
            exact ⟨ret_bool e1.out.symm, bw_trans (bw_trans K hny) J⟩
          rw [hap] at HA1
          cases hv1 : v1 == -1
          · have hne : (v1 != -1) = true := by simp only [bne, hv1, Bool.not_false]
            have e1 : Hid (plV o hs = false) := hnok (by rw [hbe.out, hap, hv1]; rfl)
            clear hnok hbe hrow' hap
            go_wp2_with fail
            refine wp_region_quiet_below (by kernel_rfl) (by kernel_rfl) ?_
            repeat (first | go_big_quiet_step (first | (go_at_call 43; with_reducible exact Calls.regrown_of (HA1.out _ _)) | (go_at_call 42; with_reducible exact Calls.regrown_of (hI1.out _ _))))
            refine wpQuiet_nil ?_
            intro _ hw'
            obtain ⟨⟨dq, osq⟩, hw''⟩ := hw'
            subst hw''
            have J := below_regrown wr dq osq
            generalize grow (redrawn wr dq) osq = v4 at J ⊢
            go_wp2_with fail
            go_ret
            exact ⟨ret_bool e1.out.symm, bw_trans (bw_trans K hny) J⟩
          obtain rfl : v1 = -1 := by simpa using hv1
          cases hv3 : v3 == -1
          · have hne : (v3 != -1) = true := by simp only [bne, hv3, Bool.not_false]
            have e1 : Hid (plV o hs = false) := hnok (by rw [hbe.out, hap, hv3]; rfl)
            clear hnok hbe hrow' hap
            go_wp2_with fail
            refine wp_region_quiet_below (by kernel_rfl) (by kernel_rfl) ?_
            repeat (first | go_big_quiet_step (first | (go_at_call 43; with_reducible exact Calls.regrown_of (HA1.out _ _)) | (go_at_call 42; with_reducible exact Calls.regrown_of (hI1.out _ _)) | (go_at_call 42; with_reducible exact Calls.regrown_of (hI2.out _ _))))
            refine wpQuiet_nil ?_
            intro _ hw'
            obtain ⟨⟨dq, osq⟩, hw''⟩ := hw'
            subst hw''
            have J := below_regrown wr dq osq
            generalize grow (redrawn wr dq) osq = v4 at J ⊢
            go_wp2_with fail
            go_ret
            exact ⟨ret_bool e1.out.symm, bw_trans (bw_trans K hny) J⟩
          obtain rfl : v3 = -1 := by simpa using hv3
          have hrow2 : Hid (∀ j, j < k + 1 → beB hh (hs[j]?.getD []) = true) := hrow'.out (by rw [hbe.out, hap]; rfl)
          clear hnok hbe hrow' hap
          go_wp2_with fail
          refine wp_region_quiet_below (by kernel_rfl) (by kernel_rfl) ?_
          repeat (first | go_big_quiet_step (first | (go_at_call 43; with_reducible exact Calls.regrown_of (HA1.out _ _)) | (go_at_call 42; with_reducible exact Calls.regrown_of (hI1.out _ _)) | (go_at_call 42; with_reducible exact Calls.regrown_of (hI2.out _ _))))
          refine wpQuiet_nil ?_
          intro _ hw'
          obtain ⟨⟨dq, osq⟩, hw''⟩ := hw'
          subst hw''
          have J := below_regrown wr dq osq
          generalize grow (redrawn wr dq) osq = v4 at J ⊢
          go_wp2_with fail
          go_roundw
          case rel => exact ⟨k + 1, by omega, by simp, hrow2.out, bw_trans hny J⟩
          case measure => simp [intOf]; omega
end Go.Proofs.YthjnfjnnpabenaaGreatDoor
namespace Go.Proofs.YthjnfjnnpabenaaGreatDoor
open Go.RowKit Go.Sort

theorem eqPt_same (x y : Int) (w : World) : Calls Tryz.prog 46 #[.agg #[.int .i64 x, .int .i64 y], .agg #[.int .i64 x, .int .i64 y]] w fun e w' => e = .returned (.bool true) ∧ Below w.heap.size w w' := by
  go_enter Tryz.func46, Tryz.ntmps46
  go_wp2
  go_ret
  exact ⟨rfl, (by repeat (first | exact bw_refl _ | assumption | apply bw_drewN | apply bw_drew | apply bw_alloc | refine bw_set ?_ (by simp) _))⟩
set_option maxRecDepth 100000 in
set_option maxHeartbeats 1000000 in
theorem eqPts_same (a c : Option Addr) (len cap cap' : Nat) (l : List P2) (w : World) (hA : Pts w.heap.size w a len l) (hC : Pts w.heap.size w c len l) (hlen : len ≤ 1048576) :
    Calls Tryz.prog 22 #[.slice a len cap, .slice c len cap'] w fun e w' => e = .returned (.bool true) ∧ Below w.heap.size w w' := by
  go_enter Tryz.func22, Tryz.ntmps22
  go_wp2
  go_loopw [5] (fun i wr => ∃ k : Nat, k ≤ len ∧ i = .int .i64 k ∧ Below w.heap.size w wr) (fun i _ => len - (intOf i).toNat)
  case atStart => exact ⟨0, Nat.zero_le _, rfl, bw_refl _⟩
  case round =>
    obtain ⟨k, hk, rfl, hnx⟩ := hrel
    by_cases hlt : k < len
    · rcases hA.2 with h0 | ⟨b, off, rfl, hbl, hc⟩
      · omega
      rcases hC.2 with h0 | ⟨b', off', rfl, hbl', hc'⟩
      · omega
      have d0 := cell_regrown ((hnx.cell (p := ⟨b, off + k * 2, none⟩) hbl).trans (hc k hlt).1)
      have d1 := cell_regrown ((hnx.cell (p := ⟨b, off + k * 2 + 1, none⟩) hbl).trans (hc k hlt).2)
      have d2 := cell_regrown ((hnx.cell (p := ⟨b', off' + k * 2, none⟩) hbl').trans (hc' k hlt).1)
      have d3 := cell_regrown ((hnx.cell (p := ⟨b', off' + k * 2 + 1, none⟩) hbl').trans (hc' k hlt).2)
      have i0 : (0 : Int) ≤ (k : Int) := Int.natCast_nonneg _
      have i1 : (k : Int) < (len : Int) := by omega
      clear hc hc'
      go_wp2_with fail
      refine wp_region_quiet_below (by kernel_rfl) (by kernel_rfl) ?_
      repeat (first | go_big_quiet_step (first | (go_at_call 46; with_reducible exact Calls.regrown_of (eqPt_same _ _ _))))
      refine wpQuiet_nil ?_
      intro _ hw'
      obtain ⟨⟨dq, osq⟩, hw''⟩ := hw'
      subst hw''
      have J := below_regrown wr dq osq
      generalize grow (redrawn wr dq) osq = w1 at J ⊢
      go_wp2_with fail
      go_roundw
      case rel => exact ⟨k + 1, by omega, by simp, bw_trans hnx J⟩
      case measure => simp [intOf]; omega
    · obtain rfl : k = len := by omega
      go_wp2
      go_ret
      exact ⟨rfl, hnx⟩
end Go.Proofs.YthjnfjnnpabenaaGreatDoor
namespace Go.Proofs.YthjnfjnnpabenaaGreatDoor
open Go.RowKit Go.Sort

theorem Tryz.infoPts : (Tryz.prog.info? 22).map (fun i => (i.zero, i.size, i.bytes)) = some (some (.slice none 0 0), 1, 24) := by kernel_rfl
/-- The hole at a place. -/
def hAt (hs : List (List P2)) (j : Nat) : List P2 := hs[j]?.getD []
/-- A row of loops of our own: its block, and the blocks of its loops. -/
def HRow (W : World) (g n : Nat) (hs : List (List P2)) (k : Nat) : Prop :=
  ∃ cur : Array Value, W.heap[g]? = some (.cells cur 22 (0, 0)) ∧ cur.size = n ∧ ∀ j, j < k → ∃ gj, g < gj ∧ cur[j]? = some (.slice (some ⟨gj, 0, none⟩) (hAt hs j).length (hAt hs j).length) ∧ PtBlk W gj (hAt hs j).length (hAt hs j) (hAt hs j).length
theorem HRow.lt {W : World} {g n k : Nat} {hs : List (List P2)} (h : HRow W g n hs k) : g < W.heap.size := by obtain ⟨cur, h, _⟩ := h; exact (Array.getElem?_eq_some_iff.1 h).1
theorem HRow.below {W W' : World} {g n k : Nat} {hs : List (List P2)} (h : HRow W g n hs k) (J : Below W.heap.size W W') : HRow W' g n hs k := by
  have hl := h.lt
  obtain ⟨cur, h, r, f⟩ := h
  exact ⟨cur, (J.block g hl).trans h, r, fun j hj => by obtain ⟨gj, h1, h2, h3⟩ := f j hj; exact ⟨gj, h1, h2, h3.below J⟩⟩
theorem HRow.room {W : World} {g n k i : Nat} {hs : List (List P2)} (h : HRow W g n hs k) (hi : i < n) : (∃ u, W.cell? ⟨g, i, none⟩ = some u) ∧ W.frozen? ⟨g, i, none⟩ = false := by
  obtain ⟨cur, h, hs, _⟩ := h
  exact ⟨⟨cur[i]'(by omega), by rw [row_cell h]; exact Array.getElem?_eq_getElem _⟩, row_frozen h⟩
theorem blk_setOther {W : World} {g len k : Nat} {l : List P2} {B i : Nat} (h : PtBlk W g len l k) (hne : g ≠ B) (v : Value) : PtBlk (W.setCell ⟨B, i, none⟩ v) g len l k := by
  obtain ⟨cur, h, r⟩ := h
  exact ⟨cur, (Below.heap_setCell W ⟨B, i, none⟩ v g hne).trans h, r⟩
theorem HRow.step {W : World} {g n k : Nat} {hs : List (List P2)} (h : HRow W g n hs k) (hk : k < n) {gk : Nat} (hne : g < gk) (hb : PtBlk W gk (hAt hs k).length (hAt hs k) (hAt hs k).length) :
    HRow (W.setCell ⟨g, k, none⟩ (.slice (some ⟨gk, 0, none⟩) (hAt hs k).length (hAt hs k).length)) g n hs (k + 1) := by
  obtain ⟨cur, h, hs', hc⟩ := h
  refine ⟨_, setCell_row h _, by simpa using hs', fun j hj => ?_⟩
  simp only [Array.getElem?_setIfInBounds, hs']
  rcases Nat.lt_or_ge j k with h1 | h1
  · obtain ⟨gj, e1, e2, e3⟩ := hc j h1
    exact ⟨gj, e1, by rw [if_neg (by omega)]; exact e2, blk_setOther e3 (by omega) _⟩
  · obtain rfl : j = k := by omega
    exact ⟨gk, hne, by rw [if_pos rfl, if_pos (by omega)], blk_setOther hb (by omega) _⟩
theorem HRow.other {W : World} {g n k B i : Nat} {hs : List (List P2)} (h : HRow W g n hs k) (hB : B < g) (v : Value) : HRow (W.setCell ⟨B, i, none⟩ v) g n hs k := by
  obtain ⟨cur, h, r, f⟩ := h
  exact ⟨cur, (Below.heap_setCell W ⟨B, i, none⟩ v g (by show g ≠ B; omega)).trans h, r, fun j hj => by obtain ⟨gj, h1, h2, h3⟩ := f j hj; exact ⟨gj, h1, h2, blk_setOther h3 (by omega) v⟩⟩
theorem HRow.made {W : World} {base g n : Nat} {hs : List (List P2)} {xs : List Value} (h : W.ownsRow base 22 1 (.slice (some ⟨g, 0, none⟩) n n) n xs) : HRow W g n hs 0 := by
  rcases h.2 with ⟨h, _⟩ | ⟨g', cap, cur, e, _, hg, _, _, hs, _⟩
  · cases h
  · cases e; exact ⟨cur, hg, by simpa using hs, fun j hj => by omega⟩
/-- A plate of our own. -/
theorem plt_of {W : World} {g gh la nh : Nat} {o : List P2} {hs : List (List P2)} (hb : PtBlk W g la o la) (ho : o.length = la) (hla : la ≤ 1048576) (hr : HRow W gh nh hs nh) (hn : hs.length = nh) (hL : ∀ j, j < nh → (hAt hs j).length ≤ 1048576) :
    Plt W (some ⟨g, 0, none⟩) la (some ⟨gh, 0, none⟩) nh o hs := by
  have hl := hr.lt
  obtain ⟨cur, h, hsz, hc⟩ := hr
  obtain ⟨f, hf⟩ := Go.Deep.choose_lt (n := nh) (p := fun j gj => gh < gj ∧ cur[j]? = some (.slice (some ⟨gj, 0, none⟩) (hAt hs j).length (hAt hs j).length) ∧ PtBlk W gj (hAt hs j).length (hAt hs j) (hAt hs j).length) hc
  refine ⟨hla, hb.pts ho, hn, fun j => some ⟨f j, 0, none⟩, fun j => (hAt hs j).length, fun j => (hAt hs j).length, .inr ⟨gh, 0, rfl, hl, fun j hj => ?_⟩, fun j hj => ⟨hL j hj, (hf j hj).2.2.pts rfl⟩⟩
  rw [Nat.zero_add, row_cell h]; exact (hf j hj).2.1
end Go.Proofs.YthjnfjnnpabenaaGreatDoor
