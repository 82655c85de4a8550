/-
  OUR OWN TEXT. The exact laws of FracOk, FracOf and FracCmp, walked: called at any argument, in any world that holds the sentinel, each answers true and writes nothing that was there.
-/
import Derived.Test.YtebjdfpfbcbhnaaDoorSpec
import Derived.Deep.DeepCutAuto
namespace Go.Proofs.YtebjdfpfbcbhnaaDoor
open Go.RowKit

theorem toFrac_any (n d : Int) (w : World) :
    Calls Tryd.prog 25 #[.agg #[.int .i64 n, .int .i64 d]] w fun e w' => e = .returned (.agg #[.int .i64 n, .int .i64 d]) ∧ Below w.heap.size w w' := by
  go_enter Tryd.func25, Tryd.ntmps25
  go_wp2
  exact bodyPost_ret (v := .agg #[.int .i64 n, .int .i64 d]) (by simp [results, Tryd.results25, go_sem]) rfl ⟨rfl, by repeat (first | exact bw_refl _ | apply bw_drewN | apply bw_drew | apply bw_alloc | refine bw_set ?_ (by simp) _)⟩
theorem toFrac_exact (n d : Int) (w : World) :
    Calls Tryd.prog 25 #[.agg #[.int .i64 n, .int .i64 d]] w fun e w' => e = .returned (.agg #[.int .i64 n, .int .i64 d]) ∧ w' = ((w.alloc (.cells #[.int .i64 n, .int .i64 d] 37)).alloc (.cells #[.int .i64 n, .int .i64 d] 26)).alloc (.cells #[.int .i64 n, .int .i64 d] 26) := by
  go_enter Tryd.func25, Tryd.ntmps25
  go_wp2
  exact bodyPost_ret (v := .agg #[.int .i64 n, .int .i64 d]) (by simp [results, Tryd.results25, go_sem]) rfl ⟨rfl, rfl⟩
theorem eqFrac_same (n d : Int) (w : World) :
    Calls Tryd.prog 26 #[.agg #[.int .i64 n, .int .i64 d], .agg #[.int .i64 n, .int .i64 d]] w fun e w' => e = .returned (.bool true) ∧ Below w.heap.size w w' := by
  go_enter Tryd.func26, Tryd.ntmps26
  go_wp2
  go_ret
  exact ⟨rfl, by repeat (first | exact bw_refl _ | apply bw_drewN | apply bw_drew | apply bw_alloc | refine bw_set ?_ (by simp) _)⟩

theorem exOk_walk (n d : Int) (_hn : (Lit.int .i64 n).wf = true) (_hd : (Lit.int .i64 d).wf = true) (a : Addr) (w : World) (hs : Sent a w) :
    Calls Tryd.prog 9 #[.agg #[.int .i64 n, .int .i64 d]] w fun e w' => e = .returned (.bool true) ∧ Below w.heap.size w w' := by
  have b0 : Below w.heap.size w (w.alloc (.cells #[.int .i64 n, .int .i64 d] 37)) := bw_alloc (bw_refl _) _
  have hne : (okB n d != okB n d) = false := by simp
  go_enter Tryd.func9, Tryd.ntmps9
  go_wp2_with fail
  refine (toFrac_any _ _ _).mono ?_
  rintro e w1 ⟨rfl, hb1⟩
  go_wp2_with fail
  refine (sOk_any _ _ _).mono ?_
  rintro e w2 ⟨rfl, hb2⟩
  have B2 := bw_trans hb1 hb2
  obtain ⟨hc, hf⟩ := bcell B2
  go_wp2_with fail
  refine (toFrac_any _ _ _).mono ?_
  rintro e w3 ⟨rfl, hb3⟩
  have B3 := bw_trans (bw_trans b0 B2) hb3
  go_wp2_with fail
  refine (fracOk_any _ _ a _ (hs.below B3)).mono ?_
  rintro e w4 ⟨rfl, hb4⟩
  have B4 := bw_trans B3 hb4
  clear hb1 hb2 hb3 hb4 hc hf B2 B3
  go_wp2_with fail
  all_goals go_ret
  all_goals exact ⟨rfl, B4⟩

theorem exOf_walk (n : Int) (_hn : (Lit.int .i64 n).wf = true) (d : Int) (_hd : (Lit.int .i64 d).wf = true) (a : Addr) (w : World) (hs : Sent a w) :
    Calls Tryd.prog 10 #[.int .i64 n, .int .i64 d] w fun e w' => e = .returned (.bool true) ∧ Below w.heap.size w w' := by
  have hne : (inB n d != inB n d) = false := by simp
  go_enter Tryd.func10, Tryd.ntmps10
  go_wp2_with fail
  refine (sOf_any _ _ _).mono ?_
  rintro e w1 ⟨rfl, hb1⟩
  go_wp2_with fail
  refine (fracOf_any _ _ a _ ?_).mono ?_
  · exact hs.below (bw_alloc hb1 _)
  rintro e w2 ⟨rfl, hb2⟩
  have B2 := bw_trans (bw_alloc hb1 _) hb2
  obtain ⟨hc, hf⟩ := bcell hb2
  have hz : w1.heap.size < w2.heap.size := by have := hb2.size; simp at this; omega
  clear hb1 hb2
  go_wp2_with fail
  refine (eqFrac_same _ _ _).mono ?_
  rintro e w3 ⟨rfl, hb3⟩
  have B3 := bw_trans (bw_alloc B2 _) hb3
  clear hb3 B2 hc hf
  go_wp2_with fail
  go_ret
  exact ⟨rfl, B3⟩

set_option maxHeartbeats 4000000 in
theorem exCmp_walk (n d : Int) (_hn : (Lit.int .i64 n).wf = true) (_hd : (Lit.int .i64 d).wf = true) (m b : Int) (_hm : (Lit.int .i64 m).wf = true) (_hb : (Lit.int .i64 b).wf = true) (a : Addr) (w : World) (hs : Sent a w) :
    Calls Tryd.prog 11 #[.agg #[.int .i64 n, .int .i64 d], .agg #[.int .i64 m, .int .i64 b]] w fun e w' => e = .returned (.bool true) ∧ Below w.heap.size w w' := by
  have b0 : Below w.heap.size w ((w.alloc (.cells #[.int .i64 n, .int .i64 d] 37)).alloc (.cells #[.int .i64 m, .int .i64 b] 37)) := bw_alloc (bw_alloc (bw_refl _) _) _
  have hne : (cmpV n d m b != cmpV n d m b) = false := by simp
  go_enter Tryd.func11, Tryd.ntmps11
  go_upto_region 1 with fail
  go_cut [5] (fun s5 wc => s5 = .int .i64 (cmpV n d m b) ∧ Below ((w.alloc (.cells #[.int .i64 n, .int .i64 d] 37)).alloc (.cells #[.int .i64 m, .int .i64 b] 37)).heap.size ((w.alloc (.cells #[.int .i64 n, .int .i64 d] 37)).alloc (.cells #[.int .i64 m, .int .i64 b] 37)) wc)
  case first =>
    go_region_with (first
      | (go_at_call_of 25 n; refine (toFrac_exact n d _).mono ?_; rintro e w1 ⟨rfl, rfl⟩)
      | (go_at_call_of 25 m; refine (toFrac_exact m b _).mono ?_; rintro e w1 ⟨rfl, rfl⟩)
      | (go_at_call 19; refine (sCmp_any _ _ _ _ _).mono ?_; rintro e w1 ⟨rfl, hb1⟩))
    all_goals go_wp2_with fail
    all_goals go_meet
    all_goals exact ⟨rfl, bw_trans (by repeat (first | exact bw_refl _ | apply bw_drew | apply bw_alloc)) hb1⟩
  case rest =>
    obtain ⟨rfl, hbc⟩ := hcut
    obtain ⟨hc, hf⟩ := bcell hbc
    have hs1 := hs.below (bw_trans b0 hbc)
    have hbc' := bw_trans b0 hbc
    have hz : w.heap.size + 1 < wc.heap.size := by have := hbc.size; simp at this; omega
    have k0 : wc.cell? ⟨w.heap.size, 0, none⟩ = some (.int .i64 n) := by rw [hc _ _ (by simp; omega)]; simp [go_sem]
    have k1 : wc.cell? ⟨w.heap.size, 1, none⟩ = some (.int .i64 d) := by rw [hc _ _ (by simp; omega)]; simp [go_sem]
    have k2 : wc.cell? ⟨w.heap.size + 1, 0, none⟩ = some (.int .i64 m) := by rw [hc _ _ (by simp)]; simp [go_sem]
    have k3 : wc.cell? ⟨w.heap.size + 1, 1, none⟩ = some (.int .i64 b) := by rw [hc _ _ (by simp)]; simp [go_sem]
    have hz' : w.heap.size < wc.heap.size := by omega
    clear hc hf hbc b0
    go_upto_region 2 with fail
    go_cut [6] (fun s6 w6 => s6 = .int .i64 (cmpV n d m b) ∧ Below wc.heap.size wc w6)
    case first =>
      go_region_with (first
        | (go_at_call_of 25 n; refine (toFrac_exact n d _).mono ?_; rintro e w1 ⟨rfl, rfl⟩)
        | (go_at_call_of 25 m; refine (toFrac_exact m b _).mono ?_; rintro e w1 ⟨rfl, rfl⟩)
        | (go_at_call 18; refine (fracCmp_any _ _ _ _ a _ ?_).mono ?_; exact hs1.below (by repeat (first | exact bw_refl _ | apply bw_drew | apply bw_alloc)); rintro e w1 ⟨rfl, hb1⟩))
      all_goals go_wp2_with fail
      all_goals go_meet
      all_goals exact ⟨rfl, bw_trans (by repeat (first | exact bw_refl _ | apply bw_drew | apply bw_alloc)) hb1⟩
    case rest =>
      obtain ⟨rfl, hb6⟩ := hcut
      go_wp2_with fail
      go_ret
      exact ⟨rfl, bw_trans hbc' hb6⟩
end Go.Proofs.YtebjdfpfbcbhnaaDoor
