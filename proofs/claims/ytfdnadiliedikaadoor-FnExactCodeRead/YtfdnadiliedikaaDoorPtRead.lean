/-
  OUR OWN TEXT. The program's reading of a point, by contract; conditions: the library's variables lie as its initialisers lay them.
-/
import Derived.Test.YtfdnadiliedikaaDoorPlcRead
namespace Go.Proofs.YtfdnadiliedikaaDoor
open Go.RowKit Go.Sort

def placesP (a u : List UInt8) : Option P2 :=
  match plcP a, plcP u with
  | some x, some y => some (x, y)
  | _, _ => none
theorem cut_nil (c : UInt8) : Lib.cut [] [c] = ([], [], false) := by
  unfold Lib.cut
  rw [if_neg (by simp [Lib.index])]
theorem cut_here (c : UInt8) (r : List UInt8) : Lib.cut (c :: r) [c] = ([], r, true) := by
  have h : Lib.index (c :: r) [c] = 0 := by rw [Lib.index, if_pos (by simp [List.isPrefixOf])]
  unfold Lib.cut
  rw [h]
  rfl
theorem cut_on (b c : UInt8) (r : List UInt8) (h : b ≠ c) : (Lib.cut (b :: r) [c]).1 = b :: (Lib.cut r [c]).1 ∧ (Lib.cut (b :: r) [c]).2.1 = (Lib.cut r [c]).2.1 := by
  have hge := Lib.index_ge r [c]
  by_cases hm : Lib.index r [c] = -1
  · have e : Lib.index (b :: r) [c] = -1 := by rw [index_one_miss h, hm]; rfl
    unfold Lib.cut
    rw [e, hm, if_neg (by decide), if_neg (by decide)]
    exact ⟨rfl, rfl⟩
  · obtain ⟨k, hk⟩ : ∃ k : Nat, Lib.index r [c] = k := ⟨(Lib.index r [c]).toNat, by omega⟩
    have e : Lib.index (b :: r) [c] = ((k + 1 : Nat) : Int) := by rw [index_one_miss h, hk, if_neg (by simp)]; simp
    unfold Lib.cut
    rw [e, hk, if_pos (by omega), if_pos (by omega), Int.toNat_natCast, Int.toNat_natCast]
    exact ⟨rfl, rfl⟩
theorem none_of {α : Type} {o : Option α} (h : o.isSome = false) : o = none := by cases o with | none => rfl | some _ => cases h
theorem places_none (u : List UInt8) : placesP [] u = none := rfl
theorem places_left (a : List UInt8) (h : plcP a = none) (u : List UInt8) : placesP a u = none := by unfold placesP; rw [h]
theorem places_right (a : List UInt8) (u : List UInt8) (h : plcP u = none) : placesP a u = none := by unfold placesP; rw [h]; cases plcP a <;> rfl
theorem plc_one (a : UInt8) : plcP [a] = if digB a = true then some ((a.toNat : Int) - 48) else none := rfl
theorem places_one (a c : UInt8) : placesP [a] [c] = if digB a = true ∧ digB c = true then some (((a.toNat : Int) - 48), ((c.toNat : Int) - 48)) else none := by
  unfold placesP
  rw [plc_one, plc_one]
  cases h1 : digB a <;> cases h2 : digB c <;> simp
theorem ptP_word (x : List UInt8) : placesP (Lib.cut x [44]).1 (Lib.cut x [44]).2.1 = wordP x := by
  match x with
  | [] => rw [cut_nil]; rfl
  | a :: r =>
    by_cases ha : a = 44
    · subst ha
      rw [cut_here]
      show none = wordP (44 :: r)
      match r with
      | [] => rfl
      | [b] => rfl
      | [b, c] =>
        show none = (if b = 44 ∧ digB 44 = true ∧ digB c = true then _ else none)
        rw [if_neg (by rintro ⟨_, h, _⟩; revert h; decide)]
      | b :: c :: d :: r' => rfl
    · obtain ⟨e1, e2⟩ := cut_on a 44 r ha
      rw [e1, e2]
      match r with
      | [] =>
        rw [cut_nil]
        exact places_right _ _ rfl
      | b :: r' =>
        by_cases hb : b = 44
        · subst hb
          rw [cut_here]
          match r' with
          | [] => exact places_right _ _ rfl
          | [c] =>
            show placesP [a] [c] = (if (44 : UInt8) = 44 ∧ digB a = true ∧ digB c = true then some (((a.toNat : Int) - 48), ((c.toNat : Int) - 48)) else none)
            rw [places_one]
            cases h1 : digB a <;> cases h2 : digB c <;> simp
          | c :: d :: r'' => exact places_right _ _ rfl
        · obtain ⟨e3, e4⟩ := cut_on b 44 r' hb
          rw [e3]
          rw [places_left (a :: b :: _) rfl]
          match r' with
          | [] => rfl
          | [c] =>
            show none = (if b = 44 ∧ digB a = true ∧ digB c = true then some (((a.toNat : Int) - 48), ((c.toNat : Int) - 48)) else none)
            rw [if_neg (fun h => hb h.1)]
          | c :: d :: r'' => rfl
def ptV (o : Option P2) : P2 := o.getD (0, 0)
set_option maxRecDepth 100000 in
set_option maxHeartbeats 1000000 in
theorem placesRead_any (a u : ByteArray) (ha : a.size ≤ 1000000) (hu : u.size ≤ 1000000) (w : World) (hL : Lib4 w) :
    Calls Tryd.prog 66 #[.string a, .string u] w fun e w' => e = .returned (.tuple #[.agg #[.int .i64 (ptV (placesP a.data.toList u.data.toList)).1, .int .i64 (ptV (placesP a.data.toList u.data.toList)).2], .bool (placesP a.data.toList u.data.toList).isSome]) ∧ Below w.heap.size w w' := by
  have h1 := fun V hV => placeRead_any a ha V hV
  have h2 := fun V hV => placeRead_any u hu V hV
  have E1 : (plcP a.data.toList).isSome = false → placesP a.data.toList u.data.toList = none := fun h => places_left _ (none_of h) _
  have E2 : (plcP u.data.toList).isSome = false → placesP a.data.toList u.data.toList = none := fun h => places_right _ _ (none_of h)
  have E3 : (plcP a.data.toList).isSome = true → (plcP u.data.toList).isSome = true → placesP a.data.toList u.data.toList = some ((plcP a.data.toList).getD 0, (plcP u.data.toList).getD 0) := fun h h' => by
    obtain ⟨x, hx⟩ := Option.isSome_iff_exists.1 h
    obtain ⟨y, hy⟩ := Option.isSome_iff_exists.1 h'
    unfold placesP
    rw [hx, hy]
    rfl
  generalize (plcP a.data.toList).getD 0 = x at *
  generalize (plcP u.data.toList).getD 0 = y at *
  generalize (plcP a.data.toList).isSome = b1 at *
  generalize (plcP u.data.toList).isSome = b2 at *
  generalize placesP a.data.toList u.data.toList = o at *
  obtain ⟨W, hW, BW, T⟩ := boxes1 w (.cells #[.int .i64 0, .int .i64 0] 42)
  have h1 := h1 W (hL.below BW)
  replace hL := hL.below BW
  cases b1 with
  | false =>
    have E : Hid (o = none) := E1 rfl
    clear E1 E2 E3
    go_enter Tryd.func66, Tryd.ntmps66
    go_upto_region 1 with fail
    rw [← hW]
    clear hW
    go_wp2_with first
      | (go_at_call 78; (with_reducible refine h1.mono ?_); clear h1; rintro e w1 ⟨rfl, J⟩; replace T := keep J T; replace BW := bw_trans BW J)
      | (go_at_call 78; (with_reducible refine (h2 _ (hL.below J)).mono ?_); rintro e w2 ⟨rfl, J2⟩; replace T := keep J2 T; replace BW := bw_trans BW J2; obtain ⟨q0, q1, qf0, qf1⟩ := blk2 T)
    exact bodyPost_ret (v := .tuple #[.agg #[.int .i64 0, .int .i64 0], .bool false]) (by simp [results, Tryd.results66, go_sem, q0, q1]) rfl ⟨by rw [E.out]; rfl, by repeat (first | exact BW | apply bw_alloc | apply bw_drew | refine bw_set ?_ (by first | exact Nat.le_refl _ | (dsimp only; omega)) _)⟩
  | true =>
    cases b2 with
    | false =>
      have E : Hid (o = none) := E2 rfl
      clear E1 E2 E3
      go_enter Tryd.func66, Tryd.ntmps66
      go_upto_region 1 with fail
      rw [← hW]
      clear hW
      go_wp2_with first
        | (go_at_call 78; (with_reducible refine h1.mono ?_); clear h1; rintro e w1 ⟨rfl, J⟩; replace T := keep J T; replace BW := bw_trans BW J)
        | (go_at_call 78; (with_reducible refine (h2 _ (hL.below J)).mono ?_); rintro e w2 ⟨rfl, J2⟩; replace T := keep J2 T; replace BW := bw_trans BW J2; obtain ⟨q0, q1, qf0, qf1⟩ := blk2 T)
      exact bodyPost_ret (v := .tuple #[.agg #[.int .i64 0, .int .i64 0], .bool false]) (by simp [results, Tryd.results66, go_sem, q0, q1]) rfl ⟨by rw [E.out]; rfl, by repeat (first | exact BW | apply bw_alloc | apply bw_drew | refine bw_set ?_ (by first | exact Nat.le_refl _ | (dsimp only; omega)) _)⟩
    | true =>
      have E : Hid (o = some (x, y)) := E3 rfl rfl
      clear E1 E2 E3
      go_enter Tryd.func66, Tryd.ntmps66
      go_upto_region 1 with fail
      rw [← hW]
      clear hW
      go_wp2_with first
        | (go_at_call 78; (with_reducible refine h1.mono ?_); clear h1; rintro e w1 ⟨rfl, J⟩; replace T := keep J T; replace BW := bw_trans BW J)
        | (go_at_call 78; (with_reducible refine (h2 _ (hL.below J)).mono ?_); rintro e w2 ⟨rfl, J2⟩; replace T := keep J2 T; replace BW := bw_trans BW J2; obtain ⟨q0, q1, qf0, qf1⟩ := blk2 T)
      exact bodyPost_ret (v := .tuple #[.agg #[.int .i64 x, .int .i64 y], .bool true]) (by simp [results, Tryd.results66, go_sem, q0, q1]) rfl ⟨by rw [E.out]; rfl, by repeat (first | exact BW | apply bw_alloc | apply bw_drew | refine bw_set ?_ (by first | exact Nat.le_refl _ | (dsimp only; omega)) _)⟩
end Go.Proofs.YtfdnadiliedikaaDoor
