/-
  OUR OWN TEXT. The program's reading of a place, by contract; conditions: the library's variables lie as its initialisers lay them.
-/
import Derived.Test.YtfdnadiliedikaaDoorSRead
import Derived.Test.YtfdnadiliedikaaDoorItoa
import Derived.Test.YtfdnadiliedikaaDoorPt
namespace Go.Proofs.YtfdnadiliedikaaDoor
open Go.RowKit Go.Sort

/-- What the library's functions read: a table, two errors, one number. -/
structure Lib4 (w : World) : Prop where
  tab : Tab w
  most : ∃ m, w.cell? ⟨0, 0, none⟩ = some (.int .i64 m)
  syn : ∃ tp p, w.var? Tryd.prog "strconv.ErrSyntax" = some #[.iface tp p]
  rng : ∃ tp p, w.var? Tryd.prog "strconv.ErrRange" = some #[.iface tp p]
theorem gSyn : Tryd.prog.globalNamed "strconv.ErrSyntax" = some 2 := by kernel_rfl
theorem gRng : Tryd.prog.globalNamed "strconv.ErrRange" = some 3 := by kernel_rfl
theorem var_lt {P : Program} {w : World} {n : String} {g : Nat} {cs : Array Value} (hg : P.globalNamed n = some g) (h : w.var? P n = some cs) : g < w.heap.size := by
  unfold World.var? at h
  rw [hg] at h
  rcases Nat.lt_or_ge g w.heap.size with h' | h'
  · exact h'
  · simp [Array.getElem?_eq_none h'] at h
theorem Lib4.below {w w' : World} (h : Lib4 w) (J : Below w.heap.size w w') : Lib4 w' := by
  refine ⟨h.tab.below J, ?_, ?_, ?_⟩
  · obtain ⟨m, hm⟩ := h.most
    exact ⟨m, (J.cell (World.block_lt_of_cell? _ _ hm)).trans hm⟩
  · obtain ⟨tp, p, hv⟩ := h.syn
    exact ⟨tp, p, var?_below J gSyn (var_lt gSyn hv) hv⟩
  · obtain ⟨tp, p, hv⟩ := h.rng
    exact ⟨tp, p, var?_below J gRng (var_lt gRng hv) hv⟩
/-- The place of a text. -/
def plcP (x : List UInt8) : Option Int :=
  match x with
  | [a] => if digB a = true then some ((a.toNat : Int) - 48) else none
  | _ => none
theorem digB_cases {a : UInt8} (h : digB a = true) : ∃ k : Nat, k < 10 ∧ a = UInt8.ofNat (48 + k) := by
  have h1 : 48 ≤ a.toNat ∧ a.toNat ≤ 57 := by unfold digB at h; simpa using h
  refine ⟨a.toNat - 48, by omega, ?_⟩
  rw [show 48 + (a.toNat - 48) = a.toNat by omega]
  simp
theorem atoi_dig : ∀ k : Nat, k < 10 → Lib.atoiAll [UInt8.ofNat (48 + k)] = .ok (k : Int) := by
  intro k hk
  have : k = 0 ∨ k = 1 ∨ k = 2 ∨ k = 3 ∨ k = 4 ∨ k = 5 ∨ k = 6 ∨ k = 7 ∨ k = 8 ∨ k = 9 := by omega
  rcases this with rfl | rfl | rfl | rfl | rfl | rfl | rfl | rfl | rfl | rfl <;> rfl
theorem dig_of : ∀ k : Nat, k < 10 → digB (UInt8.ofNat (48 + k)) = true ∧ ((UInt8.ofNat (48 + k)).toNat : Int) - 48 = k := by
  intro k hk
  have : k = 0 ∨ k = 1 ∨ k = 2 ∨ k = 3 ∨ k = 4 ∨ k = 5 ∨ k = 6 ∨ k = 7 ∨ k = 8 ∨ k = 9 := by omega
  rcases this with rfl | rfl | rfl | rfl | rfl | rfl | rfl | rfl | rfl | rfl <;> exact ⟨rfl, rfl⟩
theorem plcP_some {x : List UInt8} {v : Int} (h : plcP x = some v) : ∃ k : Nat, k < 10 ∧ v = k ∧ x = [UInt8.ofNat (48 + k)] := by
  unfold plcP at h
  split at h
  · rename_i a
    split at h
    · rename_i hd
      obtain ⟨k, hk, rfl⟩ := digB_cases hd
      refine ⟨k, hk, ?_, rfl⟩
      rw [(dig_of k hk).2] at h
      exact (Option.some.inj h).symm
    · cases h
  · cases h
theorem plcP_dig {k : Nat} (hk : k < 10) : plcP [UInt8.ofNat (48 + k)] = some (k : Int) := by
  show (if digB (UInt8.ofNat (48 + k)) = true then some (((UInt8.ofNat (48 + k)).toNat : Int) - 48) else none) = _
  rw [if_pos (dig_of k hk).1, (dig_of k hk).2]
theorem plcP_none {x : List UInt8} (h : ∀ k : Nat, k < 10 → x ≠ [UInt8.ofNat (48 + k)]) : plcP x = none := by
  cases e : plcP x with
  | none => rfl
  | some v =>
    obtain ⟨k, hk, _, hx⟩ := plcP_some e
    exact absurd hx (h k hk)
theorem ba_ne {a b : ByteArray} (h : a ≠ b) : (a.toList == b.toList) = false := by
  cases e : a.toList == b.toList with
  | false => rfl
  | true =>
    have e' := eq_of_beq e
    rw [Lib.toList_data, Lib.toList_data] at e'
    exact absurd (ByteArray.ext (Array.ext' e')) h
set_option maxRecDepth 100000 in
set_option maxHeartbeats 1000000 in
theorem placeRead_any (s : ByteArray) (hs : s.size ≤ 1000000) (w : World) (hL : Lib4 w) :
    Calls Tryd.prog 78 #[.string s] w fun e w' => e = .returned (.tuple #[.int .i64 ((plcP s.data.toList).getD 0), .bool (plcP s.data.toList).isSome]) ∧ Below w.heap.size w w' := by
  cases ha : Lib.atoiAll s.data.toList with
  | «syntax» =>
    have e1 : Hid (plcP s.data.toList = none) := plcP_none (fun k hk e => by rw [e, atoi_dig k hk] at ha; cases ha)
    obtain ⟨tp, p, hv⟩ := hL.syn
    have hA := shelf_strconv_Atoi_syntax_var s (by omega) ha tp p w hv
    clear ha
    go_enter Tryd.func78, Tryd.ntmps78
    go_wp2_with (go_at_call 84; refine hA.mono ?_; rintro e w1 ⟨N, rfl, _, _, J⟩)
    go_ret2
    exact ⟨by rw [e1.out]; rfl, J⟩
  | range =>
    have e1 : Hid (plcP s.data.toList = none) := plcP_none (fun k hk e => by rw [e, atoi_dig k hk] at ha; cases ha)
    obtain ⟨tp, p, hv⟩ := hL.rng
    have hA := shelf_strconv_Atoi_range_var s (by omega) ha tp p w hv
    clear ha
    go_enter Tryd.func78, Tryd.ntmps78
    go_wp2_with (go_at_call 84; refine hA.mono ?_; rintro e w1 ⟨N, rfl, _, _, J⟩)
    go_ret2
    exact ⟨by rw [e1.out]; rfl, J⟩
  | ok v =>
    have hA := shelf_strconv_Atoi_ok s (by omega) v ha w
    have hA' : Calls Tryd.prog 84 #[.string s] w fun e w' => e = .returned (.tuple #[.int .i64 v, .nilIface]) ∧ Below w.heap.size w w' := by
      refine hA.mono ?_
      rintro e w1 ⟨rfl, h⟩
      refine ⟨rfl, ?_⟩
      rcases h with rfl | ⟨t, rfl⟩
      · exact bw_refl _
      · exact Lib.bytesWorld_below _ _ _
    clear hA
    have hP := fun V => place_any v V
    cases hp : plB v
    · rw [hp] at hP
      have e1 : Hid (plcP s.data.toList = none) := plcP_none (fun k hk e => by
        rw [e, atoi_dig k hk] at ha
        have hv : (k : Int) = v := by injection ha
        rw [← hv] at hp
        rw [(plB_iff _).2 ⟨by omega, by omega⟩] at hp
        cases hp)
      clear ha
      go_enter Tryd.func78, Tryd.ntmps78
      go_wp2_with first
        | (go_at_call 84; (with_reducible refine hA'.mono ?_); rintro e w1 ⟨rfl, J⟩)
        | (go_at_call 68; (with_reducible refine (hP _).mono ?_); rintro e w2 ⟨rfl, rfl⟩)
      go_ret2
      exact ⟨by rw [e1.out]; rfl, J⟩
    · rw [hp] at hP
      obtain ⟨hv0, hv1⟩ := (plB_iff v).1 hp
      obtain ⟨k, rfl⟩ := Int.eq_ofNat_of_zero_le hv0
      have hk : k < 10 := by omega
      have hI : ∀ V, Tab V → Calls Tryd.prog 56 #[.int .i64 (k : Int)] V fun e w' => e = .returned (.string (ByteArray.mk #[UInt8.ofNat (48 + k)])) ∧ Below V.heap.size V w' := fun V hT => by
        have := itoa_any (k : Int) V (by omega) (by omega) hT
        rwa [Int.toNat_natCast, dec_lt k hk] at this
      have hT := hL.tab
      by_cases hx : s = ByteArray.mk #[UInt8.ofNat (48 + k)]
      · have e1 : Hid (plcP s.data.toList = some (k : Int)) := by change _ = _; rw [hx]; exact plcP_dig hk
        clear ha hp
        obtain ⟨d, hd⟩ : ∃ d, d = ByteArray.mk #[UInt8.ofNat (48 + k)] := ⟨_, rfl⟩
        rw [← hd] at hI hx
        clear hd
        subst hx
        go_enter Tryd.func78, Tryd.ntmps78
        go_wp2_with first
          | (go_at_call 84; (with_reducible refine hA'.mono ?_); rintro e w1 ⟨rfl, J⟩)
          | (go_at_call 68; (with_reducible refine (hP _).mono ?_); rintro e w2 ⟨rfl, hq⟩; rw [hq]; clear hq w2)
          | (go_at_call 56; (with_reducible refine (hI w1 (hT.below J)).mono ?_); rintro e w3 ⟨rfl, J3⟩)
        go_ret2
        exact ⟨by rw [e1.out]; rfl, bw_trans J J3⟩
      · have e1 : Hid (plcP s.data.toList = none) := plcP_none (fun j hj e => by
          apply hx
          rw [e, atoi_dig j hj] at ha
          have hv : (j : Int) = (k : Int) := by injection ha
          obtain rfl : j = k := by omega
          apply ByteArray.ext
          apply Array.ext'
          rw [e])
        clear ha hp
        obtain ⟨d, hd⟩ : ∃ d, d = ByteArray.mk #[UInt8.ofNat (48 + k)] := ⟨_, rfl⟩
        rw [← hd] at hI hx
        clear hd
        have x1 : (d.toList == s.toList) = false := ba_ne (Ne.symm hx)
        clear hx
        go_enter Tryd.func78, Tryd.ntmps78
        go_wp2_with first
          | (go_at_call 84; (with_reducible refine hA'.mono ?_); rintro e w1 ⟨rfl, J⟩)
          | (go_at_call 68; (with_reducible refine (hP _).mono ?_); rintro e w2 ⟨rfl, hq⟩; rw [hq]; clear hq w2)
          | (go_at_call 56; (with_reducible refine (hI w1 (hT.below J)).mono ?_); rintro e w3 ⟨rfl, J3⟩)
        go_ret2
        exact ⟨by rw [e1.out]; rfl, bw_trans J J3⟩
end Go.Proofs.YtfdnadiliedikaaDoor
