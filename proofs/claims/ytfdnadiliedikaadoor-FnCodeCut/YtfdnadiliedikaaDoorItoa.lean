/-
  OUR OWN TEXT. Numbers in decimals: the program's and the specification's, by contract; condition: the library's table of powers of ten lies as its initialiser lays it.
-/
import Derived.Test.YtfdnadiliedikaaDoorDec
import Derived.WalkSmall
namespace Go.Proofs.YtfdnadiliedikaaDoor
open Go.RowKit Go.Sort

/-- The library's table of powers of ten lies as it should. -/
def Tab (w : World) : Prop := Lib.TabIs Tryd.prog w "internal/strconv.uint64pow10" .u64 Lib.pow10Tab
theorem gP : Tryd.prog.globalNamed "internal/strconv.uint64pow10" = some 1 := by kernel_rfl
theorem Tab.lt {w : World} (h : Tab w) : 1 < w.heap.size := by
  unfold Tab Lib.TabIs World.var? at h
  rw [gP] at h
  rcases Nat.lt_or_ge 1 w.heap.size with h' | h'
  · exact h'
  · simp [Array.getElem?_eq_none h'] at h
theorem Tab.below {w w' : World} (h : Tab w) (hb : Below w.heap.size w w') : Tab w' := var?_below hb gP h.lt h

theorem itoa_any (n : Int) (w : World) (h0 : 0 ≤ n) (h1 : n ≤ 99999) (hT : Tab w) :
    Calls Tryd.prog 56 #[.int .i64 n] w fun e w' => e = .returned (.string ⟨(Lib.decDigits n.toNat).toArray⟩) ∧ Below w.heap.size w w' := by
  refine (shelf_strconv_Itoa n (by omega) (by omega) w hT).mono ?_
  rintro e w' ⟨rfl, k, os, rfl⟩
  refine ⟨ret_str ?_, ⟨rfl, rfl, rfl, by simp, fun j hj => by simp [grow, Array.getElem?_append, hj]⟩⟩
  unfold Lib.itoa
  rw [if_neg (by omega)]
theorem dec_int (n : Int) (w : World) (h0 : 0 ≤ n) (h1 : n ≤ 99999) :
    Calls Tryd.prog 60 #[.int .i64 n] w fun e w' => e = .returned (.string ⟨(Lib.decDigits n.toNat).toArray⟩) ∧ Below w.heap.size w w' := by
  obtain ⟨u, rfl⟩ := Int.eq_ofNat_of_zero_le h0
  rw [Int.toNat_natCast]
  exact dec_any u u w (by omega) (by omega)
theorem dec_len (n : Int) (h0 : 0 ≤ n) (h1 : n ≤ 99999) : (Lib.decDigits n.toNat).length ≤ 21 := by
  have := Lib.itoa_length_le n (by omega) (by omega)
  unfold Lib.itoa at this
  rwa [if_neg (by omega)] at this
end Go.Proofs.YtfdnadiliedikaaDoor
