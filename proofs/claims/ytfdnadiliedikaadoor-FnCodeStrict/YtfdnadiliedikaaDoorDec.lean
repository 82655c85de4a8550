/-
  OUR OWN TEXT. The specification's l6Dec by contract: of a number not below 0 the decimal numeral, as the library's own words have it.
-/
import Derived.Test.YtfdnadiliedikaaDoorShelf
import Derived.Test.YtfdnadiliedikaaDoorBw
import Derived.Lib.QuietBelow
import Derived.Lib.ItoaLen
import Derived.WalkLawsBesides
namespace Go.Proofs.YtfdnadiliedikaaDoor
open Go.RowKit Go.Sort

theorem conv_one (x : Int) (h0 : 0 ≤ x) (h1 : x < 256) (W : World) (b : Nat) (hc : W.cell? ⟨b, 0, none⟩ = some (.int .u8 x)) :
    (convert 22 9 (.slice (some ⟨b, 0, none⟩) 1 1)).run Tryd.prog W = .ok (.string ⟨#[UInt8.ofNat x.toNat]⟩) W := by
  refine run_convert_bytes_back W 22 9 5 ⟨b, 0, none⟩ 1 [UInt8.ofNat x.toNat] Tryd.underlying22 Tryd.underlying5 Tryd.underlying9 ?_
  intro j hj
  have hj0 : j = 0 := by simpa using hj
  subst hj0
  have e : ((UInt8.ofNat x.toNat).toNat : Int) = x := by
    rw [UInt8.toNat_ofNat']
    have : x.toNat % 2 ^ 8 = x.toNat := Nat.mod_eq_of_lt (by omega)
    rw [this]; omega
  simp only [List.getElem_cons_zero, e]
  exact hc

theorem dec_lt (u : Nat) (h : u < 10) : Lib.decDigits u = [UInt8.ofNat (48 + u)] := by rw [Lib.decDigits, dif_pos h]
theorem dec_ge (u : Nat) (h : ¬ u < 10) : Lib.decDigits u = Lib.decDigits (u / 10) ++ [UInt8.ofNat (48 + u % 10)] := by rw [Lib.decDigits, dif_neg h]
theorem dec_cat (u : Nat) (h : ¬ u < 10) : (ByteArray.mk (Lib.decDigits (u / 10)).toArray ++ ByteArray.mk #[UInt8.ofNat (48 + (u : Int) % 10).toNat]) = ByteArray.mk (Lib.decDigits u).toArray := by
  rw [dec_ge u h, ← ByteArray.mk_append_mk, show (48 + (u : Int) % 10).toNat = 48 + u % 10 by omega]
theorem ret_str {a b : ByteArray} (h : a = b) : Ending.returned (.string a) = .returned (.string b) := by rw [h]

set_option maxRecDepth 100000 in
theorem dec_small (u : Nat) (w : World) (h : u < 10) :
    Calls Tryd.prog 60 #[.int .i64 u] w fun e w' => e = .returned (.string ⟨(Lib.decDigits u).toArray⟩) ∧ Below w.heap.size w w' := by
  have hcv := conv_one (48 + (u : Int)) (by omega) (by omega)
  go_enter Tryd.func60, Tryd.ntmps60
  go_wp2_with fail
  go_ret
  exact ⟨ret_str (by rw [dec_lt u h]), by repeat (first | exact bw_refl _ | apply bw_alloc)⟩

theorem wrap_in (x : Int) (h0 : -1000000000000 ≤ x) (h1 : x ≤ 1000000000000) : IntKind.i64.wrap x = x := by
  simp [IntKind.wrap, IntKind.bits, IntKind.signed]; omega
set_option maxRecDepth 100000 in
theorem dec_any (k : Nat) : ∀ (u : Nat) (w : World), u ≤ k → u ≤ 1000000 →
    Calls Tryd.prog 60 #[.int .i64 u] w fun e w' => e = .returned (.string ⟨(Lib.decDigits u).toArray⟩) ∧ Below w.heap.size w w' := by
  induction k with
  | zero => exact fun u w h _ => dec_small u w (by omega)
  | succ k ih =>
    intro u w hu hb
    by_cases h : u < 10
    · exact dec_small u w h
    · have eX : Hid (IntKind.u8.wrap (IntKind.i64.wrap (48 + ((u : Int)).tmod 10)) = 48 + (u : Int) % 10) := by
        show _ = _
        rw [Int.tmod_eq_emod_of_nonneg (by omega), wrap_in _ (by omega) (by omega)]
        simp [IntKind.wrap, IntKind.bits, IntKind.signed]; omega
      have hcv := conv_one (IntKind.u8.wrap (IntKind.i64.wrap (48 + ((u : Int)).tmod 10))) (by rw [eX.out]; omega) (by rw [eX.out]; omega)
      have h10 : ¬ ((u : Int) < 10) := by omega
      have IH : Hid (∀ W, Calls Tryd.prog 60 #[.int .i64 (IntKind.i64.wrap ((u : Int) / 10))] W fun e w' => e = .returned (.string ⟨(Lib.decDigits (u / 10)).toArray⟩) ∧ Below W.heap.size W w') := fun W => by
        have := ih (u / 10) W (by omega) (by omega)
        rw [wrap_in _ (by omega) (by omega)]
        rwa [Int.natCast_ediv] at this
      clear ih
      have hlen : (Lib.decDigits (u / 10)).length ≤ 21 := by
        have := Lib.itoa_length_le ((u / 10 : Nat) : Int) (by omega) (by omega)
        unfold Lib.itoa at this
        rwa [if_neg (by omega), Int.toNat_natCast] at this
      have hle : (Lib.decDigits (u / 10)).length + 1 ≤ 9223372036854775807 := by omega
      go_enter Tryd.func60, Tryd.ntmps60
      go_wp2_with fail
      go_region_with (go_at_call 60; refine (IH.out _).mono ?_; rintro e w1 ⟨rfl, hb1⟩; obtain ⟨hc, hf⟩ := bcell hb1)
      all_goals go_wp2_with fail
      all_goals go_ret
      all_goals refine ⟨ret_str (dec_cat u h), ?_⟩
      all_goals repeat (first | exact bw_trans (bw_drew (bw_refl _)) hb1 | exact bw_trans (bw_drew (bw_alloc (bw_refl _) _)) hb1 | apply bw_alloc)
end Go.Proofs.YtfdnadiliedikaaDoor
