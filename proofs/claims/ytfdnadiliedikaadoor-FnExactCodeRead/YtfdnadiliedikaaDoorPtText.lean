/-
  OUR OWN TEXT. The text of a point: the program's and the specification's, by contract.
-/
import Derived.Test.YtfdnadiliedikaaDoorItoa
import Derived.Test.YtfdnadiliedikaaDoorLoopM
import Derived.Test.YtfdnadiliedikaaDoorBoxes
import Derived.Lib.Join
namespace Go.Proofs.YtfdnadiliedikaaDoor
open Go.RowKit Go.Sort

/-- The letters of a point. -/
def wdL (p : P2) : List UInt8 := Lib.decDigits p.1.toNat ++ [44] ++ Lib.decDigits p.2.toNat
def wdB (p : P2) : ByteArray := ⟨(wdL p).toArray⟩
theorem wdB_eq (p : P2) : ByteArray.mk (Lib.decDigits p.1.toNat).toArray ++ ByteArray.mk #[44] ++ ByteArray.mk (Lib.decDigits p.2.toNat).toArray = wdB p := by
  have e : (ByteArray.mk #[44]) = ByteArray.mk ([44] : List UInt8).toArray := rfl
  rw [e, ByteArray.mk_append_mk, ByteArray.mk_append_mk]; rfl
theorem wdL_len {p : P2} (hp : ptB p.1 p.2 = true) : (wdL p).length ≤ 43 := by
  obtain ⟨a, b, c, d⟩ := (ptB_iff _ _).1 hp
  have l1 := dec_len p.1 (by omega) (by omega)
  have l2 := dec_len p.2 (by omega) (by omega)
  unfold wdL
  simp only [List.length_append, List.length_cons, List.length_nil]
  omega
end Go.Proofs.YtfdnadiliedikaaDoor
