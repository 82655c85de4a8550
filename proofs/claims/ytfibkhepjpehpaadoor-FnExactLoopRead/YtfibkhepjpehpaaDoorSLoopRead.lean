/-
  OUR OWN TEXT. The specification's reading of a loop, by contract.
-/
import Derived.Test.YtfibkhepjpehpaaDoorSRead
import Derived.Test.YtfibkhepjpehpaaDoorSOk
namespace Go.Proofs.YtfibkhepjpehpaaDoor
open Go.RowKit Go.Sort

/-- The loop of a text. -/
def readL (s : ByteArray) : Option (List P2) :=
  if s.size ≤ 40 then match wordsP (cutL 32 s.data.toList) with
    | none => none
    | some l => if okV l = true then some l else none
  else none
theorem readL_long {s : ByteArray} (h : ¬ s.size ≤ 40) : readL s = none := by unfold readL; rw [if_neg h]
theorem readL_none {s : ByteArray} (h : wordsP (cutL 32 s.data.toList) = none) : readL s = none := by unfold readL; rw [h]; split <;> rfl
theorem readL_bad {s : ByteArray} {l : List P2} (h : wordsP (cutL 32 s.data.toList) = some l) (h2 : okV l = false) : readL s = none := by unfold readL; rw [h]; simp [h2]
theorem readL_some {s : ByteArray} {l : List P2} (hs : s.size ≤ 40) (h : wordsP (cutL 32 s.data.toList) = some l) (h2 : okV l = true) : readL s = some l := by unfold readL; rw [h, if_pos hs]; simp [h2]
set_option maxRecDepth 100000 in
set_option maxHeartbeats 1000000 in
theorem sLoopRead_ok (s : ByteArray) (hsz : s.size ≤ 1000000) (w : World) :
    Calls Tryd.prog 4 #[.string s] w fun e w' => ∃ (v : Value) (l : List P2), e = .returned (.tuple #[v, .bool (readL s).isSome]) ∧ l = (readL s).getD [] ∧ w'.ownsRow w.heap.size 32 2 v l.length (ptCells l) ∧ Below w.heap.size w w' := by
  have OWN0 : ∀ (W : World), w.heap.size ≤ W.heap.size → (W.alloc (.cells #[] 32)).ownsRow w.heap.size 32 2 (.slice (some ⟨W.heap.size, 0, none⟩) 0 0) ([] : List P2).length (ptCells []) := fun W h => World.ownsRow_made W #[] 0 h (by simp [maxLen]) rfl
  by_cases h40 : s.size ≤ 40
  case neg =>
    have e1 : Hid (readL s = none) := readL_long h40
    have h40' : ((40 : Int) < (s.size : Int)) := by omega
    go_enter Tryd.func4, Tryd.ntmps4
    go_wp2_with fail
    go_ret2
    exact ⟨_, [], by rw [e1.out]; rfl, by rw [e1.out]; rfl, OWN0 w (Nat.le_refl _), (by repeat (first | exact bw_refl _ | assumption | apply bw_drewN | apply bw_drew | apply bw_alloc | refine bw_set ?_ (by simp) _))⟩
  case pos =>
    have h40' : ¬ ((40 : Int) < (s.size : Int)) := by omega
    have hR := sRead_ok s (by omega) w
    cases hw : wordsP (cutL 32 s.data.toList) with
    | none =>
      have e1 : Hid (readL s = none) := readL_none hw
      rw [hw] at hR
      clear hw
      go_enter Tryd.func4, Tryd.ntmps4
      go_wp2_with (go_at_call 9; refine hR.mono ?_; rintro e w1 ⟨v, l, rfl, ho, _, _, J⟩; have zJ := J.size)
      go_ret2
      exact ⟨_, [], by rw [e1.out]; rfl, by rw [e1.out]; rfl, OWN0 w1 zJ, J.alloc zJ _⟩
    | some l0 =>
      rw [hw] at hR
      have HW : Hid (wordsP (cutL 32 s.data.toList) = some l0) := hw
      have hpos : 0 < l0.length := by rw [wordsP_len hw]; exact List.length_pos_iff.2 (cutL_ne _ _)
      clear hw
      have hR' : Calls Tryd.prog 9 #[.string s] w fun e w' => ∃ (g cap : Nat), e = .returned (.tuple #[.slice (some ⟨g, 0, none⟩) l0.length cap, .bool true]) ∧ l0.length ≤ 1001 ∧ w'.ownsRow w.heap.size 32 2 (.slice (some ⟨g, 0, none⟩) l0.length cap) l0.length (ptCells l0) ∧ Pts w'.heap.size w' (some ⟨g, 0, none⟩) l0.length l0 ∧ Below w.heap.size w w' := by
        refine hR.mono ?_
        rintro e w1 ⟨v, l, rfl, ho, hl, he, J⟩
        obtain rfl := he l0 rfl
        obtain ⟨g, cap, rfl, _, _⟩ := ho.form hpos
        exact ⟨g, cap, rfl, hl, ho, (blk_of_own ho rfl).1.pts' rfl, J⟩
      clear hR
      cases hk : okV l0 with
      | false =>
        have e1 : Hid (readL s = none) := readL_bad HW.out hk
        go_enter Tryd.func4, Tryd.ntmps4
        go_wp2_with first
          | (go_at_call 9; refine hR'.mono ?_; rintro e w1 ⟨g, cap, rfl, h1, ho, hP, J⟩; have zJ := J.size)
          | (go_at_call 10; have hO := sOk_any (some ⟨g, 0, none⟩) l0.length cap l0 (by omega) w1 hP; rw [hk] at hO; (with_reducible refine hO.mono ?_); clear hO; rintro e w2 ⟨rfl, J2⟩; have zJ2 := J2.size)
        go_ret2
        exact ⟨_, [], by rw [e1.out]; rfl, by rw [e1.out]; rfl, OWN0 w2 (by omega), (bw_trans J J2).alloc (by omega) _⟩
      | true =>
        have e1 : Hid (readL s = some l0) := readL_some h40 HW.out hk
        go_enter Tryd.func4, Tryd.ntmps4
        go_wp2_with first
          | (go_at_call 9; refine hR'.mono ?_; rintro e w1 ⟨g, cap, rfl, h1, ho, hP, J⟩; have zJ := J.size)
          | (go_at_call 10; have hO := sOk_any (some ⟨g, 0, none⟩) l0.length cap l0 (by omega) w1 hP; rw [hk] at hO; (with_reducible refine hO.mono ?_); clear hO; rintro e w2 ⟨rfl, J2⟩; have zJ2 := J2.size)
        go_ret2
        exact ⟨_, l0, by rw [e1.out]; rfl, by rw [e1.out]; rfl, own_b ho J2, bw_trans J J2⟩
end Go.Proofs.YtfibkhepjpehpaaDoor
