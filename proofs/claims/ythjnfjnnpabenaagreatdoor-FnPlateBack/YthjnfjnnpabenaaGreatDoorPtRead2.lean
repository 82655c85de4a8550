/-
  OUR OWN TEXT. The program's reading of a word, by contract; conditions: the library's variables lie as its initialisers lay them.
-/
import Derived.Test.YthjnfjnnpabenaaGreatDoorPtRead
namespace Go.Proofs.YthjnfjnnpabenaaGreatDoor
open Go.RowKit Go.Sort

set_option maxRecDepth 100000 in
set_option maxHeartbeats 1000000 in
theorem ptRead_any (s : ByteArray) (hs : s.size ≤ 1000000) (w : World) (hL : Lib4 w) :
    Calls Tryz.prog 67 #[.string s] w fun e w' => e = .returned (.tuple #[.agg #[.int .i64 (ptV (wordP s.data.toList)).1, .int .i64 (ptV (wordP s.data.toList)).2], .bool (wordP s.data.toList).isSome]) ∧ Below w.heap.size w w' := by
  rw [← ptP_word]
  have hcut : (Lib.cut s.data.toList [44]).1.length ≤ s.size ∧ (Lib.cut s.data.toList [44]).2.1.length ≤ s.size := by
    unfold Lib.cut
    have e : s.data.toList.length = s.size := Array.length_toList
    split
    · exact ⟨by rw [List.length_take]; omega, by rw [List.length_drop]; omega⟩
    · exact ⟨Nat.le_of_eq e, Nat.zero_le _⟩
  have hC : ∀ V, Lib4 V → Calls Tryz.prog 44 #[.string s, .string ⟨#[44]⟩] V fun e w' => e = .returned (.tuple #[.string ⟨(Lib.cut s.data.toList [44]).1.toArray⟩, .string ⟨(Lib.cut s.data.toList [44]).2.1.toArray⟩, .bool (Lib.cut s.data.toList [44]).2.2]) ∧ Below V.heap.size V w' := fun V hV => by
    obtain ⟨m, hm⟩ := hV.most
    refine (shelf_strings_Cut s ⟨#[44]⟩ m V (by omega) hm).mono ?_
    rintro e w1 ⟨rfl, n, rfl⟩
    exact ⟨rfl, by apply bw_drewN; exact bw_refl _⟩
  generalize (Lib.cut s.data.toList [44]).1 = x at *
  generalize (Lib.cut s.data.toList [44]).2.1 = y at *
  generalize (Lib.cut s.data.toList [44]).2.2 = b at *
  have hP := fun V hV => placesRead_any ⟨x.toArray⟩ ⟨y.toArray⟩ (by show x.toArray.size ≤ _; rw [List.size_toArray]; omega) (by show y.toArray.size ≤ _; rw [List.size_toArray]; omega) V hV
  simp only at hP
  generalize placesP x y = o at *
  obtain ⟨W, hW, BW, T⟩ := boxes1 w (.cells #[.int .i64 0, .int .i64 0] 73)
  replace hC := hC W (hL.below BW)
  replace hL := hL.below BW
  go_enter Tryz.func67, Tryz.ntmps67
  go_upto_region 1 with fail
  rw [← hW]
  clear hW
  go_wp2_with first
    | (go_at_call 44; (with_reducible refine hC.mono ?_); rintro e w1 ⟨rfl, J⟩; replace T := keep J T; replace BW := bw_trans BW J)
    | (go_at_call 85; (with_reducible refine (hP _ (hL.below J)).mono ?_); rintro e w2 ⟨rfl, J2⟩; replace T := keep J2 T; replace BW := bw_trans BW J2; obtain ⟨q0, q1, qf0, qf1⟩ := blk2 T)
  exact bodyPost_ret (v := .tuple #[.agg #[.int .i64 (ptV o).1, .int .i64 (ptV o).2], .bool o.isSome]) (by simp [results, Tryz.results67, go_sem, q0, q1]) rfl ⟨rfl, by repeat (first | exact BW | apply bw_alloc | apply bw_drew | refine bw_set ?_ (by first | exact Nat.le_refl _ | (dsimp only; omega)) _)⟩
end Go.Proofs.YthjnfjnnpabenaaGreatDoor
