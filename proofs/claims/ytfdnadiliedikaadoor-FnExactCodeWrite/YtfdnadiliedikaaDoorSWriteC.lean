/-
  OUR OWN TEXT. The specification's writing of a path, by contract.
-/
import Derived.Test.YtfdnadiliedikaaDoorCodeTxM
import Derived.Test.YtfdnadiliedikaaDoorSCodeU
import Derived.Test.YtfdnadiliedikaaDoorItoa
namespace Go.Proofs.YtfdnadiliedikaaDoor
open Go.RowKit Go.Sort

theorem cdB_step (X : ByteArray) (t : List P2) (k : Nat) (hk : k < t.length) (hX : X = cdB (t.take k)) :
    X ++ ByteArray.mk (cwL k).toArray ++ ByteArray.mk #[32, 88] ++ ByteArray.mk (Lib.decDigits (ptAt t k).1.toNat).toArray ++ ByteArray.mk #[32, 89] ++ ByteArray.mk (Lib.decDigits (ptAt t k).2.toNat).toArray ++ ByteArray.mk #[10] = cdB (t.take (k + 1)) := by
  subst hX
  rw [take_snoc hk, cdB_snoc, List.length_take, Nat.min_eq_left (by omega)]
  unfold lnB lnL
  apply ByteArray.ext
  simp
set_option maxRecDepth 100000 in
set_option maxHeartbeats 4000000 in
theorem sWrite_ok (a : Option Addr) (np cp : Nat) (l : List P2) (w : World) (hP : Pts w.heap.size w a np l) (hp : pathP l = true) :
    Calls Tryd.prog 35 #[.slice a np cp] w fun e w' => e = .returned (.string (cdB (turnsL l))) ∧ Below w.heap.size w w' := by
  have hC := sTurns_ok a np cp l w hP hp
  have HOK := turns_okP hp
  have h400 : (turnsL l).length ≤ 400 := by have := turnsL_le l; have := (pathP_parts hp).1.2; omega
  generalize turnsL l = T at *
  go_enter Tryd.func35, Tryd.ntmps35
  go_wp2_with fail
  refine hC.mono ?_
  clear hC hP
  rintro e w1 ⟨v, rfl, hA, J1⟩
  obtain ⟨a1, c1, rfl, hP1⟩ := hA.own
  obtain ⟨m, hm⟩ : ∃ m, T.length = m := ⟨_, rfl⟩
  have HL : Hid (T.length = m) := hm
  rw [hm] at hP1 h400
  rw [hm]
  clear hm hA
  have H0 : Hid (cdB (T.take 0) = ⟨#[]⟩) := rfl
  have HE : Hid (cdB (T.take m) = cdB T) := by change _ = _; rw [List.take_of_length_le (by rw [HL.out]; exact Nat.le_refl _)]
  go_wp2_with fail
  go_loopw [4, 5] (fun s i wr => ∃ k : Nat, k ≤ m ∧ i = .int .i64 k ∧ s = .string (cdB (T.take k)) ∧ Below w1.heap.size w1 wr) (fun _ i _ => m - (intOf i).toNat)
  case atStart => exact ⟨0, Nat.zero_le _, rfl, by rw [H0.out], bw_refl _⟩
  case round =>
    obtain ⟨k, hk, rfl, rfl, hnx⟩ := hrel
    by_cases hlt : k < m
    case neg =>
      obtain rfl : k = m := by omega
      rw [HE.out]
      go_wp2_with fail
      go_ret
      exact ⟨rfl, bw_trans J1 hnx⟩
    case pos =>
      rcases hP1.2 with h0 | ⟨b, off, rfl, hbl, hcs⟩
      · omega
      obtain ⟨c0, c1'⟩ := hcs k hlt
      have d0 := cell_regrown ((hnx.cell (p := ⟨b, off + k * 2, none⟩) hbl).trans c0)
      have d1 := cell_regrown ((hnx.cell (p := ⟨b, off + k * 2 + 1, none⟩) hbl).trans c1')
      have hpk : okP (ptAt T k) = true := HOK _ (by rw [ptAt_lt (by rw [HL.out]; exact hlt)]; exact List.getElem_mem _)
      obtain ⟨⟨g0, g1⟩, g2, g3⟩ := (okP_iff _).1 hpk
      have hsz : (cdB (T.take k)).size ≤ 3600 := by
        rw [cdB_size (fun p hp => HOK p (List.mem_of_mem_take hp)), List.length_take]; omega
      have hst := cdB_step (cdB (T.take k)) T k (by rw [HL.out]; exact hlt) rfl
      have l1 := dec_len (ptAt T k).1 (by omega) (by omega)
      have l2 := dec_len (ptAt T k).2 (by omega) (by omega)
      have C1 : Hid (∀ d' os, Calls Tryd.prog 60 #[.int .i64 (ptAt T k).1] (grow (redrawn wr d') os) fun e w'' => e = .returned (.string ⟨(Lib.decDigits (ptAt T k).1.toNat).toArray⟩) ∧ Below (grow (redrawn wr d') os).heap.size (grow (redrawn wr d') os) w'') := fun d' os => dec_int _ _ (by omega) (by omega)
      have C2 : Hid (∀ d' os, Calls Tryd.prog 60 #[.int .i64 (ptAt T k).2] (grow (redrawn wr d') os) fun e w'' => e = .returned (.string ⟨(Lib.decDigits (ptAt T k).2.toNat).toArray⟩) ∧ Below (grow (redrawn wr d') os).heap.size (grow (redrawn wr d') os) w'') := fun d' os => dec_int _ _ (by omega) (by omega)
      have j0 : (0 : Int) ≤ (k : Int) := Int.natCast_nonneg _
      have j1 : (k : Int) < (m : Int) := by omega
      have HST : Hid _ := hst
      obtain ⟨nx, hx⟩ : ∃ nx, cdB (T.take (k + 1)) = nx := ⟨_, rfl⟩
      rw [hx] at HST
      have HX : Hid (cdB (T.take (k + 1)) = nx) := hx
      generalize cdB (T.take k) = X at *
      generalize (ptAt T k).1 = px at *
      generalize (ptAt T k).2 = py at *
      clear hcs c0 c1' hst hx g0 g1 g2 g3 hpk
      rcases Nat.eq_zero_or_pos k with h0 | h0
      · subst h0
        rw [Nat.zero_mul, Nat.add_zero] at d0 d1
        have e1 : Hid (X ++ ByteArray.mk #[71, 48] ++ ByteArray.mk #[32, 88] ++ ByteArray.mk (Lib.decDigits px.toNat).toArray ++ ByteArray.mk #[32, 89] ++ ByteArray.mk (Lib.decDigits py.toNat).toArray ++ ByteArray.mk #[10] = nx) := HST.out
        clear HST
        go_wp2_with fail
        refine wp_region_quiet_below (by kernel_rfl) (by kernel_rfl) ?_
        repeat (first | go_big_quiet_step (first | (go_at_call 60; with_reducible exact Calls.regrown_of (C1.out _ _)) | (go_at_call 60; with_reducible exact Calls.regrown_of (C2.out _ _))))
        refine wpQuiet_nil ?_
        intro _ hw'
        obtain ⟨⟨dq, osq⟩, hw''⟩ := hw'
        subst hw''
        have J9 := below_regrown wr dq osq
        generalize grow (redrawn wr dq) osq = w9 at J9 ⊢
        go_wp2_with fail
        go_roundw
        case rel => exact ⟨1, by omega, by simp, by rw [HX.out, ← e1.out], bw_trans hnx J9⟩
        case measure => simp [intOf]; omega
      · have e1 : Hid (X ++ ByteArray.mk #[71, 49] ++ ByteArray.mk #[32, 88] ++ ByteArray.mk (Lib.decDigits px.toNat).toArray ++ ByteArray.mk #[32, 89] ++ ByteArray.mk (Lib.decDigits py.toNat).toArray ++ ByteArray.mk #[10] = nx) := by
          have h := HST.out
          unfold cwL at h
          rw [if_neg (by omega)] at h
          exact h
        have k0 : ((k : Int) == 0) = false := by simp; omega
        clear HST
        go_wp2_with fail
        refine wp_region_quiet_below (by kernel_rfl) (by kernel_rfl) ?_
        repeat (first | go_big_quiet_step (first | (go_at_call 60; with_reducible exact Calls.regrown_of (C1.out _ _)) | (go_at_call 60; with_reducible exact Calls.regrown_of (C2.out _ _))))
        refine wpQuiet_nil ?_
        intro _ hw'
        obtain ⟨⟨dq, osq⟩, hw''⟩ := hw'
        subst hw''
        have J9 := below_regrown wr dq osq
        generalize grow (redrawn wr dq) osq = w9 at J9 ⊢
        go_wp2_with fail
        go_roundw
        case rel => exact ⟨k + 1, by omega, by simp, by rw [HX.out, ← e1.out], bw_trans hnx J9⟩
        case measure => simp [intOf]; omega
theorem turnsV_ok' (l : List P2) (h : pathP l = false) : cdV l = ⟨#[]⟩ := by unfold cdV; rw [h]; rfl
theorem sCodeWrite_any (a : Option Addr) (np cp : Nat) (l : List P2) (w : World) (hn : np ≤ 1048576) (hP : Pts w.heap.size w a np l) :
    Calls Tryd.prog 12 #[.slice a np cp] w fun e W' => e = .returned (.string (cdV l)) ∧ Below w.heap.size w W' := by
  have h1 := sPath_any a np cp l w hn hP
  cases hp : pathP l
  · have E : Hid (cdV l = ⟨#[]⟩) := turnsV_ok' l hp
    rw [hp] at h1
    go_enter Tryd.func12, Tryd.ntmps12
    go_wp2_with fail
    refine h1.mono ?_
    rintro e w1 ⟨rfl, J1⟩
    go_wp2_with fail
    go_ret
    exact ⟨by rw [E.out]; rfl, J1⟩
  · have E : Hid (cdV l = cdB (turnsL l)) := by change _ = _; unfold cdV; rw [hp]; rfl
    rw [hp] at h1
    go_enter Tryd.func12, Tryd.ntmps12
    go_wp2_with fail
    refine h1.mono ?_
    rintro e w1 ⟨rfl, J1⟩
    go_wp2_with fail
    refine (sWrite_ok a np cp l w1 ((hP.below J1).grow J1.size) hp).mono ?_
    rintro e w2 ⟨rfl, J2⟩
    go_wp2_with fail
    go_ret
    exact ⟨by rw [E.out]; rfl, bw_trans J1 J2⟩
end Go.Proofs.YtfdnadiliedikaaDoor
