/-
  OUR OWN TEXT. The specification's l6Dec by contract: of a number not below 0 the decimal numeral, as the library's own words have it.
-/
import Derived.Test.YtfibkhepjpehpaaDoorShelf
import Derived.Test.YtfibkhepjpehpaaDoorBw
import Derived.Lib.QuietBelow
import Derived.Lib.ItoaLen
import Derived.WalkLawsBesides
namespace Go.Proofs.YtfibkhepjpehpaaDoor
open Go.RowKit Go.Sort

theorem conv_one (x : Int) (h0 : 0 ≤ x) (h1 : x < 256) (W : World) (b : Nat) (hc : W.cell? ⟨b, 0, none⟩ = some (.int .u8 x)) :
    (convert 53 9 (.slice (some ⟨b, 0, none⟩) 1 1)).run Tryd.prog W = .ok (.string ⟨#[UInt8.ofNat x.toNat]⟩) W := by
  refine run_convert_bytes_back W 53 9 5 ⟨b, 0, none⟩ 1 [UInt8.ofNat x.toNat] Tryd.underlying53 Tryd.underlying5 Tryd.underlying9 ?_
  intro j hj
  have hj0 : j = 0 := by simpa using hj
  subst hj0
  have e : ((UInt8.ofNat x.toNat).toNat : Int) = x := by
    rw [UInt8.toNat_ofNat']
    have : x.toNat % 2 ^ 8 = x.toNat := Nat.mod_eq_of_lt (by omega)
    rw [this]; omega
  simp only [List.getElem_cons_zero, e]
  exact hc

theorem dec_lt (u : Nat) (h : u < 10) : Lib.decDigits u = [UInt8.ofNat (48 + u)] := by rw [Lib.decDigits, dif_pos h]
theorem dec_ge (u : Nat) (h : ¬ u < 10) : Lib.decDigits u = Lib.decDigits (u / 10) ++ [UInt8.ofNat (48 + u % 10)] := by rw [Lib.decDigits, dif_neg h]
theorem dec_cat (u : Nat) (h : ¬ u < 10) : (ByteArray.mk (Lib.decDigits (u / 10)).toArray ++ ByteArray.mk #[UInt8.ofNat (48 + (u : Int) % 10).toNat]) = ByteArray.mk (Lib.decDigits u).toArray := by
  rw [dec_ge u h, ← ByteArray.mk_append_mk, show (48 + (u : Int) % 10).toNat = 48 + u % 10 by omega]
theorem ret_str {a b : ByteArray} (h : a = b) : Ending.returned (.string a) = .returned (.string b) := by rw [h]


theorem wrap_in (x : Int) (h0 : -1000000000000 ≤ x) (h1 : x ≤ 1000000000000) : IntKind.i64.wrap x = x := by
  simp [IntKind.wrap, IntKind.bits, IntKind.signed]; omega
end Go.Proofs.YtfibkhepjpehpaaDoor
