/-
  OUR OWN TEXT. The exact law of LoopRead, walked. Conditions: the library's variables lie as its initialisers lay them.
-/
import Derived.Test.YtfibkhepjpehpaaDoorLpRead
import Derived.Test.YtfibkhepjpehpaaDoorMarkP
namespace Go.Proofs.YtfibkhepjpehpaaDoor
open Go.RowKit Go.Sort

theorem sLoopRead_long (s : ByteArray) (h : ¬ s.size ≤ 40) (w : World) :
    Calls Tryd.prog 4 #[.string s] w fun e w' => ∃ (v : Value) (l : List P2), e = .returned (.tuple #[v, .bool (readL s).isSome]) ∧ l = (readL s).getD [] ∧ w'.ownsRow w.heap.size 32 2 v l.length (ptCells l) ∧ Below w.heap.size w w' := by
  have e1 : Hid (readL s = none) := readL_long h
  have h40' : ((40 : Int) < (s.size : Int)) := by omega
  go_enter Tryd.func4, Tryd.ntmps4
  go_wp2_with fail
  go_ret2
  exact ⟨_, [], by rw [e1.out]; rfl, by rw [e1.out]; rfl, World.ownsRow_made w #[] 0 (Nat.le_refl _) (by simp [maxLen]) rfl, (by repeat (first | exact bw_refl _ | assumption | apply bw_drewN | apply bw_drew | apply bw_alloc | refine bw_set ?_ (by simp) _))⟩
theorem readL_len (s : ByteArray) : ((readL s).getD []).length ≤ 8 := by
  unfold readL
  split
  · split
    · exact Nat.zero_le _
    · split
      · rename_i h; exact ((okV_iff _).1 h).hi
      · exact Nat.zero_le _
  · exact Nat.zero_le _
set_option maxRecDepth 100000 in
set_option maxHeartbeats 2000000 in
theorem exLoopRead_walk (s : ByteArray) (_ : s.size ≤ maxLen) (W : World) (hL : Lib4 W) :
    Calls Tryd.prog 3 #[.string s] W fun e w' => e = .returned (.bool true) ∧ Below W.heap.size W w' := by
  by_cases hlen : (1048576 : Int) < (s.size : Int)
  · go_enter Tryd.func3, Tryd.ntmps3
    go_wp2_with fail
    go_ret
    exact ⟨rfl, (by repeat (first | exact bw_refl _ | assumption | apply bw_drewN | apply bw_drew | apply bw_alloc | refine bw_set ?_ (by simp) _))⟩
  have hS : ∀ V, Calls Tryd.prog 4 #[.string s] V fun e w' => ∃ v, e = .returned (.tuple #[v, .bool (readL s).isSome]) ∧ AnsT V.heap.size w'.heap.size w' v ((readL s).getD []) ∧ Below V.heap.size V w' := fun V => by
    by_cases h40 : s.size ≤ 40
    · refine (sLoopRead_ok s (by omega) V).mono ?_
      rintro e w1 ⟨v, l, rfl, rfl, ho, J⟩
      exact ⟨v, rfl, AnsT.of_own ho rfl, J⟩
    · refine (sLoopRead_long s h40 V).mono ?_
      rintro e w1 ⟨v, l, rfl, rfl, ho, J⟩
      exact ⟨v, rfl, AnsT.of_own ho rfl, J⟩
  have hR : ∀ V, Lib4 V → Calls Tryd.prog 5 #[.string s] V fun e w' => ∃ v, e = .returned (.tuple #[v, .bool (readL s).isSome]) ∧ AnsT V.heap.size w'.heap.size w' v ((readL s).getD []) ∧ Below V.heap.size V w' := fun V hV => by
    refine (loopRead_any s (by omega) V hV).mono ?_
    rintro e w1 ⟨v, l, rfl, rfl, ho, J⟩
    exact ⟨v, rfl, AnsT.of_own ho rfl, J⟩
  have h8 := readL_len s
  have n2 : ¬ (1 + 2 * (((readL s).getD []).length : Int) < 0) := by omega
  have hb : ∀ b : Bool, (b != b) = false := by simp
  generalize (readL s).getD [] = l at *
  generalize (readL s).isSome = b at *
  go_enter Tryd.func3, Tryd.ntmps3
  go_wp2_with fail
  refine (hS _).mono ?_
  rintro e w1 ⟨v1, rfl, A1, J1⟩
  have K1 := J1
  go_wp2_with fail
  refine (hR _ (hL.below K1)).mono ?_
  rintro e w2 ⟨v2, rfl, A2, J2⟩
  have K2 := bw_trans K1 J2
  replace A1 := A1.below J2
  go_wp2_with fail
  refine (eqAns_same _ _ _ _ v2 v1 _ _ A2 A1 (by omega)).mono ?_
  rintro e w3 ⟨rfl, J3⟩
  have K3 := bw_trans K2 J3
  replace A1 := A1.below J3
  replace A2 := A2.below J3
  go_wp2_with fail
  refine (markAns_any _ _ v2 _ _ A2 (by omega)).mono ?_
  rintro e w4 ⟨rfl, N4, r, hr, hr2, O4⟩
  have z1 := J1.size
  have z2 := J2.size
  have z3 := J3.size
  have K4 : Below W.heap.size W w4 := K3.trans (O4.below' (B := W.heap.size) (by omega) (by omega))
  replace A1 := A1.only O4 (.inr (by omega))
  go_wp2_with fail
  refine (heldAns_any _ _ _ v2 _ N4 (by omega)).mono ?_
  rintro e w5 ⟨rfl, J5⟩
  have K5 := bw_trans K4 J5
  replace A1 := A1.below J5
  replace N4 := N4.below J5
  go_wp2_with fail
  refine (hR _ (hL.below K5)).mono ?_
  rintro e w6 ⟨v6, rfl, A6, J6⟩
  have K6 := bw_trans K5 J6
  replace A1 := A1.below J6
  replace N4 := N4.below J6
  go_wp2_with fail
  refine (eqAns_same _ _ _ _ v6 v1 _ _ A6 A1 (by omega)).mono ?_
  rintro e w7 ⟨rfl, J7⟩
  have K7 := bw_trans K6 J7
  replace N4 := N4.below J7
  go_wp2_with fail
  refine (heldAns_any _ _ _ v2 _ N4 (by omega)).mono ?_
  rintro e w8 ⟨rfl, J8⟩
  go_wp2_with fail
  go_ret
  exact ⟨rfl, bw_trans K7 J8⟩
end Go.Proofs.YtfibkhepjpehpaaDoor
