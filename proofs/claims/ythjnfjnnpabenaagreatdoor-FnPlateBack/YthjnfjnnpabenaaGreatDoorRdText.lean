/-
  OUR OWN TEXT. A loop's text is read as that loop, and no other text is; bytes alone.
-/
import Derived.Test.YthjnfjnnpabenaaGreatDoorLpRead
import Derived.Test.YthjnfjnnpabenaaGreatDoorTextM2
namespace Go.Proofs.YthjnfjnnpabenaaGreatDoor

theorem dec_dig {x : Int} (h0 : 0 ≤ x) (h1 : x ≤ 9) : Lib.decDigits x.toNat = [UInt8.ofNat (48 + x.toNat)] := dec_lt _ (by omega)
theorem wdL_3 {p : P2} (hp : ptB p.1 p.2 = true) : wdL p = [UInt8.ofNat (48 + p.1.toNat), 44, UInt8.ofNat (48 + p.2.toNat)] := by
  rw [ptB_iff] at hp
  unfold wdL
  rw [dec_dig hp.1 hp.2.1, dec_dig hp.2.2.1 hp.2.2.2]
  rfl
theorem word_back {p : P2} (hp : ptB p.1 p.2 = true) : wordP (wdL p) = some p := by
  rw [wdL_3 hp]
  rw [ptB_iff] at hp
  obtain ⟨a1, a2⟩ := dig_of p.1.toNat (by omega)
  obtain ⟨b1, b2⟩ := dig_of p.2.toNat (by omega)
  rw [wordP_3 ⟨rfl, a1, b1⟩, a2, b2, Int.toNat_of_nonneg hp.1, Int.toNat_of_nonneg hp.2.2.1]
theorem word_only {x : List UInt8} {p : P2} (h : wordP x = some p) : ptB p.1 p.2 = true ∧ wdL p = x := by
  unfold wordP at h
  split at h
  · rename_i a b c
    split at h
    · rename_i hd
      obtain ⟨hb, ha, hc⟩ := hd
      obtain ⟨k, hk, rfl⟩ := digB_cases ha
      obtain ⟨j, hj, rfl⟩ := digB_cases hc
      have e := Option.some.inj h
      rw [(dig_of k hk).2, (dig_of j hj).2] at e
      subst e hb
      have hp : ptB ((k : Int)) ((j : Int)) = true := by rw [ptB_iff]; omega
      refine ⟨hp, ?_⟩
      rw [wdL_3 hp]
      simp
    · cases h
  · cases h
theorem cut_free (c : UInt8) (x : List UInt8) (h : c ∉ x) : cutL c x = [x] := by
  induction x with
  | nil => rfl
  | cons a x ih =>
    rw [cutL, if_neg (fun e => h (by rw [e]; exact List.mem_cons_self)), ih (fun h' => h (List.mem_cons_of_mem _ h'))]
theorem cut_word (c : UInt8) (x r : List UInt8) (h : c ∉ x) : cutL c (x ++ c :: r) = x :: cutL c r := by
  induction x with
  | nil => rw [List.nil_append, cutL, if_pos rfl]
  | cons a x ih =>
    rw [List.cons_append, cutL, if_neg (fun e => h (by rw [e]; exact List.mem_cons_self)), ih (fun h' => h (List.mem_cons_of_mem _ h'))]
theorem tail_cons (y : List UInt8) (r : List (List UInt8)) : Lib.joinTail [32] (y :: r) = 32 :: Lib.join (y :: r) [32] := by
  rw [Lib.join_cons]
  rfl
theorem txL_cons (p q : P2) (l : List P2) : txL (p :: q :: l) = wdL p ++ 32 :: txL (q :: l) := by
  unfold txL
  rw [List.map_cons, List.map_cons, Lib.join_cons, tail_cons]
theorem wd_no32 {p : P2} (hp : ptB p.1 p.2 = true) : (32 : UInt8) ∉ wdL p := by
  rw [wdL_3 hp]
  rw [ptB_iff] at hp
  have key : ∀ k : Nat, k < 10 → (32 : UInt8) ≠ UInt8.ofNat (48 + k) := by
    intro k hk e
    have := congrArg UInt8.toNat e
    simp at this
    omega
  intro h
  rcases List.mem_cons.1 h with h | h
  · exact key _ (by omega) h
  · rcases List.mem_cons.1 h with h | h
    · revert h; decide
    · exact key _ (by omega) (List.mem_singleton.1 h)
theorem cut_tx {l : List P2} (hl : l ≠ []) (hp : ∀ p ∈ l, ptB p.1 p.2 = true) : cutL 32 (txL l) = l.map wdL := by
  induction l with
  | nil => exact absurd rfl hl
  | cons p l ih =>
    have h32 := wd_no32 (hp p List.mem_cons_self)
    cases l with
    | nil => rw [txL_one, cut_free _ _ h32]; rfl
    | cons q l => rw [txL_cons, cut_word _ _ _ h32, ih (by simp) (fun r hr => hp r (List.mem_cons_of_mem _ hr))]; rfl
theorem words_map {l : List P2} (hp : ∀ p ∈ l, ptB p.1 p.2 = true) : wordsP (l.map wdL) = some l := by
  induction l with
  | nil => rfl
  | cons p l ih =>
    show (match wordP (wdL p) with | none => none | some p => (wordsP (l.map wdL)).map (p :: ·)) = some (p :: l)
    rw [word_back (hp p List.mem_cons_self), ih (fun r hr => hp r (List.mem_cons_of_mem _ hr))]
    rfl
theorem txL_size {l : List P2} (hl : l ≠ []) (hp : ∀ p ∈ l, ptB p.1 p.2 = true) : (txL l).length + 1 = 4 * l.length := by
  induction l with
  | nil => exact absurd rfl hl
  | cons p l ih =>
    have h3 := congrArg List.length (wdL_3 (hp p List.mem_cons_self))
    cases l with
    | nil => rw [txL_one, h3]; rfl
    | cons q l =>
      rw [txL_cons, List.length_append, List.length_cons, h3]
      have := ih (by simp) (fun r hr => hp r (List.mem_cons_of_mem _ hr))
      simp only [List.length_cons, List.length_nil] at *
      omega
theorem okV_pts8 {l : List P2} (h : okV l = true) : l ≠ [] ∧ l.length ≤ 8 ∧ ∀ p ∈ l, ptB p.1 p.2 = true := by
  have hk := (okV_iff l).1 h
  refine ⟨fun e => by subst e; have := hk.lo; simp at this, hk.hi, fun p hp' => ?_⟩
  obtain ⟨i, hi, rfl⟩ := List.getElem_of_mem hp'
  have := (sgP_pt (hk.seg i hi)).1
  rwa [ptAt_lt hi] at this
theorem read_back {l : List P2} (h : okV l = true) : readL (txB l) = some l ∧ (txB l).size = 4 * l.length - 1 := by
  obtain ⟨h0, h8, hp⟩ := okV_pts8 h
  have hs := txL_size h0 hp
  have hz : (txB l).size = (txL l).length := by unfold txB ByteArray.size; simp
  have hd : (txB l).data.toList = txL l := by unfold txB; simp
  refine ⟨readL_some (by omega) ?_ h, by omega⟩
  rw [hd, cut_tx h0 hp, words_map hp]
theorem words_only {xs : List (List UInt8)} {l : List P2} (h : wordsP xs = some l) : xs = l.map wdL ∧ ∀ p ∈ l, ptB p.1 p.2 = true := by
  induction xs generalizing l with
  | nil => cases h; exact ⟨rfl, fun p hp => by cases hp⟩
  | cons x xs ih =>
    simp only [wordsP] at h
    cases hx : wordP x with
    | none => rw [hx] at h; cases h
    | some p =>
      rw [hx] at h
      cases hy : wordsP xs with
      | none => rw [hy] at h; cases h
      | some m =>
        rw [hy] at h
        obtain rfl := Option.some.inj h
        obtain ⟨e1, e2⟩ := ih hy
        obtain ⟨w1, w2⟩ := word_only hx
        refine ⟨by rw [e1, List.map_cons, w2], fun q hq => ?_⟩
        rcases List.mem_cons.1 hq with rfl | hq
        · exact w1
        · exact e2 q hq
theorem join_cut (y : List UInt8) : Lib.join (cutL 32 y) [32] = y := by
  induction y with
  | nil => rfl
  | cons b r ih =>
    unfold cutL
    split
    · rename_i hb
      subst hb
      cases h : cutL 32 r with
      | nil => exact absurd h (cutL_ne _ _)
      | cons x xs =>
        rw [h] at ih
        rw [Lib.join_cons, tail_cons, ih]
        rfl
    · cases h : cutL 32 r with
      | nil => exact absurd h (cutL_ne _ _)
      | cons x xs =>
        rw [h, Lib.join_cons] at ih
        show Lib.join ((b :: x) :: xs) [32] = b :: r
        rw [Lib.join_cons, List.cons_append, ih]
theorem cut_join (l : List P2) (y : List UInt8) (h : cutL 32 y = l.map wdL) : y = txL l := by
  rw [← join_cut y, h]
  rfl
theorem read_only {s : ByteArray} {l : List P2} (h : readL s = some l) : okV l = true ∧ txB l = s := by
  unfold readL at h
  split at h
  · split at h
    · cases h
    · rename_i m hm
      split at h
      · rename_i hk
        obtain rfl := Option.some.inj h
        refine ⟨hk, ?_⟩
        have e := cut_join m s.data.toList (words_only hm).1
        apply ByteArray.ext
        apply Array.ext'
        rw [e]
        unfold txB
        simp
      · cases h
  · cases h
end Go.Proofs.YthjnfjnnpabenaaGreatDoor
