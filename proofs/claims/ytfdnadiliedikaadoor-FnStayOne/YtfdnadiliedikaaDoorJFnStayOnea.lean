/-
  OUR OWN TEXT. The law FnStayOne, for every input: the call returns true, and each argument reads as it did. Texts of ours, joined, so that the claim keeps to its number of files. Conditions: none but the row's own.
-/
import Derived.Test.YtfdnadiliedikaaDoorDrawCode
import Derived.Test.YtfdnadiliedikaaDoorLuSame
import Derived.Test.YtfdnadiliedikaaDoorCodeS
import Derived.Test.YtfdnadiliedikaaDoorWriteC
import Derived.Test.YtfdnadiliedikaaDoorItoa
import Derived.Test.YtfdnadiliedikaaDoorCards
import Derived.Test.YtfdnadiliedikaaDoorTie
import Derived.ProofKit
import Derived.OpenShut
import Derived.ShutString
import Derived.ChangeOld
import Derived.Below
import Derived.LaidMore
import Derived.MakeChecks
import Derived.Stop.Joined
import Derived.Stop.LaidErr
import Derived.Lib.LaidTab
import Derived.Lib.SmallJoins
namespace Go.Proofs.YtfdnadiliedikaaDoor
open Go.RowKit Go.Sort

theorem one_path {p : P2} (h : okP p = true) : pathP [p] = true := pathP_of (by simp) (fun q hq => by rw [List.mem_singleton.1 hq]; exact h) rfl
theorem one_stay {p : P2} (h : okP p = true) : stayV [p] = true ∧ stayR [p] = [p] := by
  have h1 : stayV [p] = true := stayV_of (by simp) (fun q hq => by rw [List.mem_singleton.1 hq]; exact h) rfl (by show 1 ≤ 400; omega)
  refine ⟨h1, ?_⟩
  unfold stayR
  rw [h1, if_pos rfl]
  rfl
theorem two_stay (p : P2) : stayV [p, p] = false := stayV_inl (i := 0) (by simp) (by show inlP p p = false; unfold inlP; simp)
theorem no_stay : stayV [] = false := stayV_len (by simp)
/-- The text of a path begins with its first word. -/
theorem path_text {l : List P2} (h : pathP l = true) : 2 ≤ (cdV l).size ∧ (cdV l).extract 0 2 = ⟨#[71, 48]⟩ := by
  unfold cdV
  rw [h, if_pos rfl]
  obtain ⟨r, hr⟩ := cdL_head (turnsL_nil (pathP_parts h).1.1)
  unfold cdB
  rw [hr]
  refine ⟨by unfold ByteArray.size; simp, ?_⟩
  apply ByteArray.ext
  simp
theorem pts_one (W : World) (x y : Int) : Pts (W.alloc (.cells #[.int .i64 x, .int .i64 y] 42)).heap.size (W.alloc (.cells #[.int .i64 x, .int .i64 y] 42)) (some ⟨W.heap.size, 0, none⟩) 1 [(x, y)] := by
  refine ⟨rfl, .inr ⟨W.heap.size, 0, rfl, by simp, fun j hj => ?_⟩⟩
  obtain rfl : j = 0 := by omega
  obtain ⟨h0, h1, _, _⟩ := blk2 (heap_new W (.cells #[.int .i64 x, .int .i64 y] 42))
  exact ⟨h0, h1⟩
theorem pts_two (W : World) (x y : Int) : Pts (W.alloc (.cells #[.int .i64 x, .int .i64 y, .int .i64 x, .int .i64 y] 42)).heap.size (W.alloc (.cells #[.int .i64 x, .int .i64 y, .int .i64 x, .int .i64 y] 42)) (some ⟨W.heap.size, 0, none⟩) 2 [(x, y), (x, y)] := by
  refine ⟨rfl, .inr ⟨W.heap.size, 0, rfl, by simp, fun j hj => ?_⟩⟩
  obtain ⟨h0, h1, h2, h3, _⟩ := blk4 (heap_new W (.cells #[.int .i64 x, .int .i64 y, .int .i64 x, .int .i64 y] 42))
  rcases (by omega : j = 0 ∨ j = 1) with rfl | rfl
  · exact ⟨h0, h1⟩
  · exact ⟨h2, h3⟩
set_option maxRecDepth 100000 in
set_option maxHeartbeats 4000000 in
theorem stayOne_walk (w : World) (a0 : Option Addr) (len0 cap0 : Nat) (z0 : List Int) (r0 : IsRow .u8 w a0 len0 cap0 z0) (a1 : Option Addr) (len1 cap1 : Nat) (z1 : List Int) (_ : IsRow .u8 w a1 len1 cap1 z1) (hT : Tab w) :
    Calls Tryd.prog 9 #[.slice a0 len0 cap0, .slice a1 len1 cap1] w fun e w' => e = .returned (.bool true) ∧ Below w.heap.size w w' := by
  by_cases hl0 : (1048576 : Int) < (len0 : Int)
  · go_enter Tryd.func9, Tryd.ntmps9
    go_wp2_with fail
    go_ret
    exact ⟨rfl, bw_refl _⟩
  by_cases hl1 : (1048576 : Int) < (len1 : Int)
  · go_enter Tryd.func9, Tryd.ntmps9
    go_wp2_with fail
    go_ret
    exact ⟨rfl, bw_refl _⟩
  obtain ⟨px, hpx⟩ : ∃ px, (len1 : Int) % 10 = px := ⟨_, rfl⟩
  obtain ⟨py, hpy⟩ : ∃ py, (len1 : Int) / 2 % 10 = py := ⟨_, rfl⟩
  have hok : okP (px, py) = true := by rw [okP_iff]; simp only; omega
  have t1 : (len1 : Int).tmod 10 = px := by rw [Int.tmod_eq_emod_of_nonneg (by omega)]; exact hpx
  have t2 : ((len1 : Int).tdiv 2).tmod 10 = py := by rw [Int.tdiv_eq_ediv_of_nonneg (by omega), Int.tmod_eq_emod_of_nonneg (by omega)]; exact hpy
  go_enter Tryd.func9, Tryd.ntmps9
  go_wp2_with fail
  refine (drawStay_any w _ r0 (bw_refl _)).mono ?_
  rintro e w1 ⟨g, c, l, rfl, hl1', hl8, hPB, hlc, hb, J1⟩
  have hP1 := hb.pts' rfl
  obtain ⟨n, hn⟩ : ∃ n, n = l.length := ⟨_, rfl⟩
  have HL : Hid (l.length = n) := hn.symm
  rw [← hn] at hP1 hl1' hl8 hlc
  rw [← hn]
  clear hb hn
  have hSS := sCodeStay_any (some ⟨g, 0, none⟩) n c l w1 (by omega) hP1
  have hII := fun V (J : Below w1.heap.size w1 V) => codeStay_any (some ⟨g, 0, none⟩) n c l V (by omega) hlc ((hP1.below J).grow J.size)
  have h400 := stayR_len l
  have hbb : ∀ b : Bool, (b != b) = false := by simp
  go_wp2_with fail
  refine hSS.mono ?_
  rintro e w2 ⟨v2, rfl, A2, J2⟩
  go_wp2_with fail
  refine (hII _ J2).mono ?_
  rintro e w3 ⟨v3, rfl, A3, J3⟩
  replace A2 := A2.below J3
  obtain ⟨a2, c2, rfl, P2'⟩ := A2.own
  obtain ⟨a3, c3, rfl, P3⟩ := A3.own
  have hSm := luSame_same a3 a2 (stayR l).length c3 c2 (stayR l) w3 P3 P2' (by omega)
  go_wp2_with fail
  refine hSm.mono ?_
  rintro e w4 ⟨rfl, J4⟩
  have J14 := bw_trans J1 (bw_trans J2 (bw_trans J3 J4))
  obtain ⟨V0, hV0, B0, T0⟩ : ∃ V, V = w4.alloc (.cells #[.int .i64 px, .int .i64 py] 42) ∧ Below w4.heap.size w4 V ∧ V.heap[w4.heap.size]? = some (.cells #[.int .i64 px, .int .i64 py] 42) := ⟨_, rfl, (by repeat (first | exact bw_refl _ | assumption | apply bw_drewN | apply bw_drew | apply bw_alloc | refine bw_set ?_ (by simp) _)), heap_new _ _⟩
  have zV0 : V0.heap.size = w4.heap.size + 1 := by rw [hV0]; simp
  obtain ⟨V1, hV1, B1⟩ : ∃ V, V = V0.alloc (.cells #[.int .i64 px, .int .i64 py] 42) ∧ Below V0.heap.size V0 V := ⟨_, rfl, (by repeat (first | exact bw_refl _ | assumption | apply bw_drewN | apply bw_drew | apply bw_alloc | refine bw_set ?_ (by simp) _))⟩
  have hone := pts_one V0 px py
  rw [← hV1, zV0] at hone
  have hV01 : V1 = (w4.alloc (.cells #[.int .i64 px, .int .i64 py] 42)).alloc (.cells #[.int .i64 px, .int .i64 py] 42) := by rw [hV1, hV0]
  have hC1 := codeStay_any (some ⟨w4.heap.size + 1, 0, none⟩) 1 1 [(px, py)] V1 (by omega) (by omega) hone
  rw [(one_stay hok).1, (one_stay hok).2] at hC1
  have JV1 := bw_trans J14 (bw_trans B0 B1)
  clear hV1 hV0
  go_wp2_with fail
  rw [← hV01]
  clear hV01
  refine hC1.mono ?_
  clear hC1
  rintro e w5 ⟨v5, rfl, A5, J5⟩
  obtain ⟨a5, c5, rfl, P5⟩ := A5.own
  have P5' : Pts w5.heap.size w5 a5 1 [(px, py)] := P5
  have T5 := keep J5 (keep B1 T0)
  obtain ⟨p0, p1, p2, p3⟩ := blk2 T5
  have htwo := pts_two w5 px py
  have BW5 : Below w5.heap.size w5 (w5.alloc (.cells #[.int .i64 px, .int .i64 py, .int .i64 px, .int .i64 py] 42)) := (by repeat (first | exact bw_refl _ | assumption | apply bw_drewN | apply bw_drew | apply bw_alloc | refine bw_set ?_ (by simp) _))
  have hC2 := codeStay_any (some ⟨w5.heap.size, 0, none⟩) 2 2 [(px, py), (px, py)] _ (by omega) (by omega) htwo
  rw [two_stay] at hC2
  go_wp2_with fail
  refine hC2.mono ?_
  clear hC2 htwo p0 p1 p2 p3
  rintro e w6 ⟨v6, rfl, -, J6⟩
  have J56 := bw_trans BW5 J6
  have hC3 := codeStay_any none 0 0 [] w6 (by omega) (by omega) ⟨rfl, .inl rfl⟩
  rw [no_stay] at hC3
  go_wp2_with fail
  refine hC3.mono ?_
  clear hC3
  rintro e w7 ⟨v7, rfl, -, J7⟩
  have J57 := bw_trans J56 J7
  obtain ⟨p0, p1, p2, p3⟩ := blk2 (keep J57 T5)
  have h7 := pts_one w7 px py
  have BW7 : Below w7.heap.size w7 (w7.alloc (.cells #[.int .i64 px, .int .i64 py] 42)) := (by repeat (first | exact bw_refl _ | assumption | apply bw_drewN | apply bw_drew | apply bw_alloc | refine bw_set ?_ (by simp) _))
  have J5W := bw_trans J57 BW7
  have hS7 := luSame_same a5 (some ⟨w7.heap.size, 0, none⟩) 1 c5 1 [(px, py)] _ ((P5'.below J5W).grow J5W.size) h7 (by omega)
  go_wp2_with fail
  refine hS7.mono ?_
  clear hS7 h7 p0 p1 p2 p3
  rintro e w8 ⟨rfl, J8⟩
  have J58 := bw_trans J5W J8
  obtain ⟨p0, p1, p2, p3⟩ := blk2 (keep J58 T5)
  have h8 := pts_one w8 px py
  have BW8 : Below w8.heap.size w8 (w8.alloc (.cells #[.int .i64 px, .int .i64 py] 42)) := (by repeat (first | exact bw_refl _ | assumption | apply bw_drewN | apply bw_drew | apply bw_alloc | refine bw_set ?_ (by simp) _))
  have J5X := bw_trans J58 BW8
  have JX := bw_trans JV1 (bw_trans J5 J5X)
  have hW8 := codeWrite_any (some ⟨w8.heap.size, 0, none⟩) 1 1 [(px, py)] _ (by omega) (by omega) h8 (hT.below JX)
  obtain ⟨hs2, hse⟩ := path_text (one_path hok)
  generalize cdV [(px, py)] = s at hW8 hs2 hse
  have i2 : (2 : Int) ≤ (s.size : Int) := by omega
  go_wp2_with fail
  refine hW8.mono ?_
  clear hW8 h8
  rintro e w9 ⟨rfl, J9⟩
  go_wp2_with fail
  go_ret
  exact ⟨rfl, bw_trans JX J9⟩
end Go.Proofs.YtfdnadiliedikaaDoor
namespace Go.Proofs.YtfdnadiliedikaaDoor
open Go.ChangeShapes Go.WideShapes Go.ChangeAt Go.RowKit

theorem own : ownKnob Tryd.prog.godebug = none := by kernel_rfl
theorem laidOut : laidOutB Tryd.prog = true := by kernel_rfl
/-- The list. -/
def listTab : List (String × DataW Unit) := [("math/bits.deBruijn32tab", Rows.laid_math_bits_deBruijn32tab), ("math/bits.deBruijn64tab", Rows.laid_math_bits_deBruijn64tab), ("internal/strconv.uint64pow10", Rows.laid_internal_strconv_uint64pow10)]
theorem gPType : (Tryd.prog.globals[1]?).map (·.type) = some 107 := by kernel_rfl
theorem cellsU64 : Tryd.prog.cellsOf 99 = 1 := by kernel_rfl
theorem cellsTab : Tryd.prog.cellsOf 107 = 20 := by kernel_rfl
theorem tabSame : Rows.laid_internal_strconv_uint64pow10 (H := Unit) = Lib.tabData .u64 Lib.pow10Tab := by kernel_rfl
theorem tab_of_laid {W : World} (h : laidMetH Tryd.prog listTab W) : Tab W := by
  rw [MakeChecks.laidMetH_plain _ _ _ (by kernel_rfl)] at h
  have h3 : laidMet Tryd.prog [("internal/strconv.uint64pow10", Rows.laid_internal_strconv_uint64pow10)] W := (laidMet.tail (laidMet.tail h))
  rw [tabSame] at h3
  exact Lib.tabIs_of_head gP gPType Tryd.underlying107 Tryd.underlying99 cellsU64 cellsTab h3
/-- The door's own heap meets the condition. -/
theorem door_met_tab (os : Os) (args : Array Value) : laidMetH Tryd.prog listTab ((World.doorLaid Tryd.prog 62 os).forCall (fun _ _ => 0) ⟨#[], args, []⟩).memory :=
  laidMetH_of_parts3 (fuel := 8) (laidMet_of_run' 8 (by kernel_rfl) (by kernel_rfl)) (by kernel_rfl) (by kernel_rfl)
end Go.Proofs.YtfdnadiliedikaaDoor
namespace Go.Proofs.YtfdnadiliedikaaDoor
open Go.ChangeShapes Go.WideShapes Go.ChangeAt Go.RowKit Go.Joins
open Go.ChangeMaps (open_string shut_string)

set_option maxRecDepth 100000 in
theorem fnStayOne_lifted (os : Os) (started : os.Started) (H : Type) (enc : TypeId × Value → H) :
    ReturnsInHanded {} Tryd.checked os 9 .any (fun w args => (Rows.fnStayOneSpec.pre enc Tryd.prog Tryd.f9 [] false w args ∧ laidMetH Tryd.prog Rows.fnStayOneRow.laid w) ∧ sizedMet enc Tryd.prog Tryd.f9 (OpenSpec.ofChange Rows.fnStayOneSpec) false w args)
      (Rows.fnStayOneSpec.post enc Tryd.prog Tryd.f9 false true false false) := by
  refine returnsInHanded_of_change_and (C := Tryd.checked) (X := fun w _ => laidMetH Tryd.prog Rows.fnStayOneRow.laid w) (fun _ _ _ hh h => h.of_heap hh) own started (by kernel_rfl) Tryd.func9
    (ChangeSpec.witness_shaped (enc := enc) (C := Tryd.checked) (os := os) (X := fun w _ => laidMetH Tryd.prog Rows.fnStayOneRow.laid w) false (World.doorLaid Tryd.prog 62 os) #[.slice none 0 0, .slice none 0 0] 8 rfl (World.shaped_of_RefB (by kernel_rfl) (by kernel_rfl)) (by kernel_rfl) (by kernel_rfl) (by kernel_rfl) (door_met_tab os _)) ?_
  intro W base args ds gs before hval0 hW _ _ hL _
  have hval : ∀ (j : Nat) t v, Tryd.f9.params[j]? = some t → args[j]? = some v → Value.okWide Tryd.prog W .any base t v := hval0
  have hW' := hW
  obtain ⟨p, q, hA0, hV, rfl, hfz, hnd⟩ := hW
  have hA : DataW.TrodAll enc Tryd.prog W 0 (fun _ => true) true Tryd.f9.params.toList args.toList ds p := hA0
  rw [Tryd.params9] at hA hval
  obtain ⟨v0, vs0, d0, ds0, p0, q0, hargs, rfl, rfl, h0, r0⟩ := trodAll_cons hA
  obtain ⟨v1, vs1, d1, ds1, p1, q1, rfl, rfl, rfl, h1, r1⟩ := trodAll_cons r0
  obtain ⟨rfl, rfl, rfl⟩ := trodAll_nil r1
  obtain rfl : args = #[v0, v1] := by cases args; simp_all
  obtain ⟨rfl, rfl⟩ := trodVars_none hV
  have htab := tab_of_laid hL
  have k0 := h0
  have lt0 : ∀ x ∈ p0, x.block < W.heap.size := by obtain ⟨m, hm⟩ := k0; exact DataW.trod_lt m _ _ _ hm
  obtain ⟨a0, len0, cap0, rfl⟩ := okWide_slice Tryd.underlying22 (hval 0 22 v0 rfl rfl)
  obtain ⟨z0, w0⟩ : ∃ zs, IsRow .u8 W a0 len0 cap0 zs := by
    obtain ⟨fuel, hf⟩ := h0
    rcases open_ints Tryd.underlying22 Tryd.underlying5 (by kernel_rfl) hf with ⟨hcs, _⟩ | ⟨x, l, c, zs, hcs, _, hl, hm, hz, _, hcell, hwz⟩
    · simp [Value.cells] at hcs
      obtain ⟨rfl, rfl, rfl⟩ := hcs
      exact ⟨[], .inl ⟨rfl, rfl, rfl, rfl⟩⟩
    · simp [Value.cells] at hcs
      obtain ⟨rfl, rfl, rfl⟩ := hcs
      exact ⟨zs, .inr ⟨_, rfl, hl, hm, by simpa using hz, hcell, hwz⟩⟩
  have k1 := h1
  have lt1 : ∀ x ∈ p1, x.block < W.heap.size := by obtain ⟨m, hm⟩ := k1; exact DataW.trod_lt m _ _ _ hm
  obtain ⟨a1, len1, cap1, rfl⟩ := okWide_slice Tryd.underlying22 (hval 1 22 v1 rfl rfl)
  obtain ⟨z1, w1⟩ : ∃ zs, IsRow .u8 W a1 len1 cap1 zs := by
    obtain ⟨fuel, hf⟩ := h1
    rcases open_ints Tryd.underlying22 Tryd.underlying5 (by kernel_rfl) hf with ⟨hcs, _⟩ | ⟨x, l, c, zs, hcs, _, hl, hm, hz, _, hcell, hwz⟩
    · simp [Value.cells] at hcs
      obtain ⟨rfl, rfl, rfl⟩ := hcs
      exact ⟨[], .inl ⟨rfl, rfl, rfl, rfl⟩⟩
    · simp [Value.cells] at hcs
      obtain ⟨rfl, rfl, rfl⟩ := hcs
      exact ⟨zs, .inr ⟨_, rfl, hl, hm, by simpa using hz, hcell, hwz⟩⟩
  clear hA0 hval0
  refine (stayOne_walk W a0 len0 cap0 z0 w0 a1 len1 cap1 z1 w1 htab).mono fun e W' ⟨he, bel⟩ => ?_
  subst he
  exact ⟨_, rfl, _, _, _, [], _, [], hW', trodAll_mk1 (shut_bool Tryd.underlying4 _), (trodAll_cons_mk (Below.trod laidOut (by kernel_rfl) (of_decide_eq_true (by kernel_rfl)) k0 bel lt0) (trodAll_cons_mk (Below.trod laidOut (by kernel_rfl) (of_decide_eq_true (by kernel_rfl)) k1 bel lt1) trodAll_mk0)), rfl, bel.frame _, fun h => by cases h⟩

theorem fnStayOne_said : Rows.FnStayOneSaid :=
  OpenClaim.holds_of_wide 9 Tryd.f9 rfl rfl rfl rfl rfl rfl rfl ⟨rfl, rfl, rfl, rfl, rfl⟩ rfl rfl rfl rfl rfl (by kernel_rfl) Tryd.func9 (by kernel_rfl)
    (of_decide_eq_true (by kernel_rfl)) (by unfold Func.isWrapper; first | (rw [if_pos (by decide +kernel)]; kernel_rfl) | (rw [if_neg (by decide +kernel)]; exact ⟨rfl, rfl⟩))
    (fun os started H enc _ => fnStayOne_lifted os started H enc)

theorem fnStayOne_plain (f : FuncId) (fn : Func) (hf : Tryd.pinned.checked.prog.funcNamed "loop.example/mortiser/laws.FnStayOne" = some f) (hfn : Tryd.pinned.checked.prog.funcs[f]? = some fn) :
    true = Tryd.pinned.checked.prog.looks [] ∧ ∀ (j : Nat) t, fn.params[j]? = some t → Tryd.pinned.checked.prog.wantsStandIn t = false := by
  obtain rfl : f = 9 := Option.some.inj ((show Tryd.prog.funcNamed "loop.example/mortiser/laws.FnStayOne" = some 9 by kernel_rfl).symm.trans hf) |>.symm
  obtain rfl : fn = Tryd.f9 := (Option.some.inj (Tryd.func9.symm.trans hfn)).symm
  refine ⟨by kernel_rfl, fun j t ht => ?_⟩
  rw [Tryd.params9] at ht
  have hm := Array.mem_of_getElem? ht
  simp only [List.mem_toArray, List.mem_cons, List.not_mem_nil, or_false] at hm
  rcases hm with rfl | rfl
  · exact (show Tryd.prog.wantsStandIn 22 = false by kernel_rfl)
  · exact (show Tryd.prog.wantsStandIn 22 = false by kernel_rfl)

/-- THE STATEMENT. -/
theorem fnStayOne_card : Rows.FnStayOneCardSaid :=
  Claim7.holds_tied_plain_at .later [] _ _ _ _ fnStayOne_said (fun _ h => by cases h) (by kernel_rfl) (fun _ h => by cases h) fnStayOne_row_tie rfl ⟨rfl, rfl⟩ (by kernel_rfl) rfl fnStayOne_plain (by kernel_rfl)
end Go.Proofs.YtfdnadiliedikaaDoor
