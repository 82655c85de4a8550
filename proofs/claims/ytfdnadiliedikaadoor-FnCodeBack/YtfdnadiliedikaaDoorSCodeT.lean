/-
  OUR OWN TEXT. The specification's paths and turns, by contract, at whatever points.
-/
import Derived.Test.YtfdnadiliedikaaDoorCodeM3
import Derived.Test.YtfdnadiliedikaaDoorLuL
import Derived.Test.YtfdnadiliedikaaDoorTurn
namespace Go.Proofs.YtfdnadiliedikaaDoor
open Go.RowKit Go.Sort

set_option maxHeartbeats 1000000 in
theorem sBes_ok (p q : P2) (w : World) (hp : okP p = true) (hq : okP q = true) :
    Calls Tryd.prog 58 #[.agg #[.int .i64 p.1, .int .i64 p.2], .agg #[.int .i64 q.1, .int .i64 q.2]] w fun e W' => e = .returned (.bool (besP p q)) ∧ Below w.heap.size w W' := by
  have hc := fun V => sDot_any _ _ _ _ _ _ V hp hq hq
  unfold besP
  generalize dt p.1 p.2 q.1 q.2 q.1 q.2 = z at *
  go_enter Tryd.func58, Tryd.ntmps58
  go_wp2_with fail
  refine (hc _).mono ?_
  rintro e v ⟨rfl, J⟩
  go_wp2_with fail
  go_ret
  exact ⟨by congr 1, bw_trans (by repeat (first | exact bw_refl _ | assumption | apply bw_drewN | apply bw_drew | apply bw_alloc | refine bw_set ?_ (by simp) _)) J⟩
set_option maxRecDepth 100000 in
set_option maxHeartbeats 4000000 in
theorem sPath_any (a : Option Addr) (np cp : Nat) (l : List P2) (w : World) (hn : np ≤ 1048576) (hP : Pts w.heap.size w a np l) :
    Calls Tryd.prog 34 #[.slice a np cp] w fun e W' => e = .returned (.bool (pathP l)) ∧ Below w.heap.size w W' := by
  obtain ⟨hlen, hP⟩ := hP
  have HL : Hid (l.length = np) := hlen
  clear hlen
  go_enter Tryd.func34, Tryd.ntmps34
  go_wp2_with fail
  go_loopw [3] (fun i wr => ∃ k : Nat, k ≤ np ∧ i = .int .i64 k ∧ (∀ j, j < k → okP (ptAt l j) = true) ∧ (∀ j, j + 1 < k → besP (ptAt l j) (ptAt l (j + 1)) = true) ∧ Below w.heap.size w wr) (fun i _ => np - (intOf i).toNat)
  case atStart => exact ⟨0, Nat.zero_le _, rfl, fun j hj => absurd hj (Nat.not_lt_zero _), fun j hj => absurd hj (Nat.not_lt_zero _), bw_refl _⟩
  case round =>
    obtain ⟨k, hk, rfl, hok, hbs, hnx⟩ := hrel
    have HOK : Hid (∀ j, j < k → okP (ptAt l j) = true) := hok
    have HBS : Hid (∀ j, j + 1 < k → besP (ptAt l j) (ptAt l (j + 1)) = true) := hbs
    clear hok hbs
    by_cases hlt : k < np
    case neg =>
      obtain rfl : k = np := by omega
      have e1 : Hid (pathP l = inR k 1 400) := by
        change _ = _
        rw [Bool.eq_iff_iff, pathP_iff, inR_iff, HL.out]
        constructor
        · rintro ⟨h, _⟩; omega
        · intro h; exact ⟨by omega, HOK.out, HBS.out⟩
      go_wp2_with fail
      refine (in_any _ _ _ _).mono ?_
      rintro e w2 ⟨rfl, rfl⟩
      go_wp2_with fail
      go_ret
      exact ⟨by rw [e1.out]; rfl, hnx⟩
    case pos =>
      rcases hP with h0 | ⟨g, off, rfl, hg, hc⟩
      · omega
      have i3 : (0 : Int) ≤ (k : Int) := Int.natCast_nonneg _
      have i4 : (k : Int) < (np : Int) := by omega
      obtain ⟨d0, d1⟩ := hc k hlt
      have q0 := cell_regrown ((hnx.cell (p := ⟨g, off + k * 2, none⟩) hg).trans d0)
      have q1 := cell_regrown ((hnx.cell (p := ⟨g, off + k * 2 + 1, none⟩) hg).trans d1)
      clear d0 d1
      have hp1 : ∀ b, okP (ptAt l k) = b → Hid (∀ V, Calls Tryd.prog 54 #[.agg #[.int .i64 (ptAt l k).1, .int .i64 (ptAt l k).2]] V fun e w' => e = .returned (.bool b) ∧ Below V.heap.size V w') := fun b hb V => by
        have := sPt_any (ptAt l k).1 (ptAt l k).2 V
        unfold okP at hb
        rwa [hb] at this
      cases hp : okP (ptAt l k)
      case false =>
        have X1 := hp1 false hp
        have e1 : Hid (pathP l = false) := pathP_pt (by rw [HL.out]; exact hlt) hp
        clear hp1 hc
        go_wp2_with fail
        refine wp_region_quiet_below (by kernel_rfl) (by kernel_rfl) ?_
        repeat (first | go_big_quiet_step (first | (go_at_call 54; with_reducible exact Calls.regrown_of (X1.out _))))
        refine wpQuiet_nil ?_
        intro _ hw'
        obtain ⟨⟨dq, osq⟩, hw''⟩ := hw'
        subst hw''
        have J := below_regrown wr dq osq
        generalize grow (redrawn wr dq) osq = v1 at J ⊢
        go_wp2_with fail
        go_ret
        exact ⟨by rw [e1.out]; rfl, bw_trans hnx J⟩
      case true =>
        have X1 := hp1 true hp
        have HQ : Hid (okP (ptAt l k) = true) := hp
        clear hp1
        rcases Nat.eq_zero_or_pos k with hk0 | hk0
        · subst hk0
          clear hc hp
          simp only [Nat.zero_mul, Nat.add_zero] at q0 q1
          go_wp2_with fail
          refine wp_region_quiet_below (by kernel_rfl) (by kernel_rfl) ?_
          repeat (first | go_big_quiet_step (first | (go_at_call 54; with_reducible exact Calls.regrown_of (X1.out _))))
          refine wpQuiet_nil ?_
          intro _ hw'
          obtain ⟨⟨dq, osq⟩, hw''⟩ := hw'
          subst hw''
          have J := below_regrown wr dq osq
          generalize grow (redrawn wr dq) osq = v1 at J ⊢
          go_wp2_with fail
          go_roundw
          case rel => exact ⟨1, by omega, by simp, fun j hj => by obtain rfl : j = 0 := (by omega); exact HQ.out, fun j hj => absurd hj (by omega), bw_trans hnx J⟩
          case measure => simp [intOf]; omega
        · obtain ⟨q, rfl⟩ : ∃ q, k = q + 1 := ⟨k - 1, by omega⟩
          obtain ⟨d0, d1⟩ := hc q (by omega)
          have s0 := cell_regrown ((hnx.cell (p := ⟨g, off + q * 2, none⟩) hg).trans d0)
          have s1 := cell_regrown ((hnx.cell (p := ⟨g, off + q * 2 + 1, none⟩) hg).trans d1)
          have j1 : IntKind.i64.wrap ((q : Int)) = (q : Int) := wrap_small (by omega) (by omega)
          have j2 : (0 : Int) ≤ (q : Int) := Int.natCast_nonneg _
          have j3 : (q : Int) < (np : Int) := by omega
          have j4 : ((q : Int) + 1 = 0) = False := by simp; omega
          have j5 : (0 : Int) < (q : Int) + 1 := by omega
          have j6 : ((q : Int) + 1 == 0) = false := by simp; omega
          have hpq := HOK.out q (by omega)
          have hB : ∀ b, besP (ptAt l q) (ptAt l (q + 1)) = b → Hid (∀ V, Calls Tryd.prog 58 #[.agg #[.int .i64 (ptAt l q).1, .int .i64 (ptAt l q).2], .agg #[.int .i64 (ptAt l (q+1)).1, .int .i64 (ptAt l (q+1)).2]] V fun e w' => e = .returned (.bool b) ∧ Below V.heap.size V w') := fun b hb V => by
            have := sBes_ok (ptAt l q) (ptAt l (q + 1)) V hpq hp
            rwa [hb] at this
          clear d0 d1 hc hpq hp
          cases hd : besP (ptAt l q) (ptAt l (q + 1))
          case false =>
            have X2 := hB false hd
            have e1 : Hid (pathP l = false) := pathP_step (i := q) (by rw [HL.out]; exact hlt) hd
            clear hB hd
            go_wp2_with fail
            refine wp_region_quiet_below (by kernel_rfl) (by kernel_rfl) ?_
            repeat (first | go_big_quiet_step (first | (go_at_call 54; with_reducible exact Calls.regrown_of (X1.out _)) | (go_at_call 58; with_reducible exact Calls.regrown_of (X2.out _))))
            refine wpQuiet_nil ?_
            intro _ hw'
            obtain ⟨⟨dq, osq⟩, hw''⟩ := hw'
            subst hw''
            have J := below_regrown wr dq osq
            generalize grow (redrawn wr dq) osq = v1 at J ⊢
            go_wp2_with fail
            go_ret
            exact ⟨by rw [e1.out]; rfl, bw_trans hnx J⟩
          case true =>
            have X2 := hB true hd
            have HS1 : Hid (besP (ptAt l q) (ptAt l (q + 1)) = true) := hd
            clear hB hd
            go_wp2_with fail
            refine wp_region_quiet_below (by kernel_rfl) (by kernel_rfl) ?_
            repeat (first | go_big_quiet_step (first | (go_at_call 54; with_reducible exact Calls.regrown_of (X1.out _)) | (go_at_call 58; with_reducible exact Calls.regrown_of (X2.out _))))
            refine wpQuiet_nil ?_
            intro _ hw'
            obtain ⟨⟨dq, osq⟩, hw''⟩ := hw'
            subst hw''
            have J := below_regrown wr dq osq
            generalize grow (redrawn wr dq) osq = v1 at J ⊢
            go_wp2_with fail
            go_roundw
            case rel => exact ⟨q + 1 + 1, by omega, by simp, fun j hj => by rcases Nat.lt_or_ge j (q + 1) with h | h; exact HOK.out j h; obtain rfl : j = q + 1 := (by omega); exact HQ.out, fun j hj => by rcases Nat.lt_or_ge (j + 1) (q + 1) with h | h; exact HBS.out j h; obtain rfl : j = q := (by omega); exact HS1.out, bw_trans hnx J⟩
            case measure => simp [intOf]; omega
end Go.Proofs.YtfdnadiliedikaaDoor
