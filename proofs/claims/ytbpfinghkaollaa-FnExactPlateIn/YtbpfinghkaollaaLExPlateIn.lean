/-
  OUR OWN TEXT. The exact law of PlateIn, walked.
-/
import Derived.Test.YtbpfinghkaollaaToPlate2
import Derived.Test.YtbpfinghkaollaaOpenPlate
import Derived.Test.YtbpfinghkaollaaPlateC
import Derived.Test.YtbpfinghkaollaaSPlateIn
import Derived.Test.YtbpfinghkaollaaLExPlateOk
import Derived.Deep.RegionHeld3
namespace Go.Proofs.Ytbpfinghkaollaa
open Go.RowKit Go.Sort

set_option maxRecDepth 100000 in
set_option maxHeartbeats 2000000 in
theorem exPlateIn_walk (W : World) (a : Option Addr) (la ca : Nat) (o : List P2) (ah : Option Addr) (nh ch : Nat) (hs : List (List P2)) (hC : Came W a la ca o) (hH : CameH W ah nh hs) (x y : Int) (_ : (Lit.int .i64 x).wf = true) (_ : (Lit.int .i64 y).wf = true) :
    Calls Try.prog 8 #[.agg #[.slice a la ca, .slice ah nh ch], .agg #[.int .i64 x, .int .i64 y]] W fun e w' => e = .returned (.bool true) ∧ Below W.heap.size W w' := by
  have hla := hC.len.2
  have hP := hC.pts
  obtain ⟨hlen, hnm, A, L, C, hS, hHH⟩ := hH
  have hcall := szPlate_any a ah la ca nh ch A L C hla hnm (fun j hj => (hHH j hj).len.2)
  obtain ⟨W1, hW1, BW, T, TP⟩ := boxes2 W (.cells #[.slice a la ca, .slice ah nh ch] 48) (.cells #[.int .i64 x, .int .i64 y] 53)
  replace hcall := hcall W1 ((hS.below BW).grow BW.size)
  obtain ⟨t0, t1⟩ := blk_2 T
  go_enter Try.func8, Try.ntmps8
  go_upto_region 2 with fail
  rw [← hW1]
  clear hW1
  go_wp2_with fail
  refine hcall.mono ?_
  clear hcall
  rintro e w1 ⟨J1, hr⟩
  have K1 := bw_trans BW J1
  rcases hr with rfl | ⟨r, r0, r1, rfl, hla1, hn, hLL⟩
  · go_wp2_with fail
    go_ret
    exact ⟨rfl, K1⟩
  have hr0 : ¬ (r < 0) := by omega
  have hPl : Plt w1 a la ah nh o hs := ⟨hla1, (hP.below K1).grow K1.size, hlen, A, L, C, (hS.below K1).grow K1.size, fun j hj => ⟨hLL j hj, ((hHH j hj).pts.below K1).grow K1.size⟩⟩
  clear hS hHH hP hC hLL
  replace T := keep J1 T
  clear t0 t1
  obtain ⟨t0, t1⟩ := blk_2 T
  replace TP := keep J1 TP
  obtain ⟨p0, p1⟩ := blk_2 TP
  go_wp2_with fail
  have TD : w1.drew.heap[W.heap.size]? = some (.cells #[.slice a la ca, .slice ah nh ch] 48) := T
  have PD : w1.drew.heap[W.heap.size + 1]? = some (.cells #[.int .i64 x, .int .i64 y] 53) := TP
  have hPlD : Plt w1.drew a la ah nh o hs := hPl
  have KD : Below W.heap.size W w1.drew := K1.drew
  go_region_held3 (fun w' => (w'.cell? ⟨W.heap.size, 0, none⟩ = some (.slice a la ca) ∧ w'.cell? ⟨W.heap.size, 1, none⟩ = some (.slice ah nh ch)) ∧ (w'.cell? ⟨W.heap.size + 1, 0, none⟩ = some (.int .i64 x) ∧ w'.cell? ⟨W.heap.size + 1, 1, none⟩ = some (.int .i64 y)))
    (first | go_keep | exact ⟨blk_2 TD, blk_2 PD⟩)
    (first
      | (go_at_call 22; refine (toPlate_any a ah la ca nh ch o hs _ hPlD hn).mono ?_; rintro e w2 ⟨g2, gh2, rfl, hPl2, J⟩; replace KD := bw_trans KD J; replace TD := keep J TD; replace PD := keep J PD; replace hPlD := hPlD.below J; clear J)
      | (go_at_call 24; refine (toPt_any _ _ _).mono ?_; rintro e w2b ⟨rfl, J⟩; replace KD := bw_trans KD J; replace TD := keep J TD; replace PD := keep J PD; replace hPlD := hPlD.below J; replace hPl2 := hPl2.below J; clear J)
      | (go_at_call 17; refine (sPlateIn_any _ _ la la nh nh o hs (x, y) _ hPl2).mono ?_; rintro e w3 ⟨rfl, J⟩; replace KD := bw_trans KD J; replace TD := keep J TD; replace PD := keep J PD; replace hPlD := hPlD.below J; clear J))
  clear hPl T TP K1 J1 t0 t1 p0 p1
  obtain ⟨t0, t1⟩ := blk_2 TD
  go_wp2_with fail
  refine (toPlate_any a ah la ca nh ch o hs w3 hPlD hn).mono ?_
  rintro e w4 ⟨g4, gh4, rfl, hPl4, J4⟩
  have B5 : Below w4.heap.size w4 (w4.alloc (.cells #[.slice (some ⟨g4, 0, none⟩) la la, .slice (some ⟨gh4, 0, none⟩) nh nh] 26)) := (by repeat (first | exact bw_refl _ | assumption | apply bw_drewN | apply bw_drew | apply bw_alloc | refine bw_set ?_ (by simp) _))
  have J5 := bw_trans J4 B5
  obtain ⟨w5, hw5⟩ : ∃ w5, w4.alloc (.cells #[.slice (some ⟨g4, 0, none⟩) la la, .slice (some ⟨gh4, 0, none⟩) nh nh] 26) = w5 := ⟨_, rfl⟩
  have X : w5.heap[w4.heap.size]? = some (.cells #[.slice (some ⟨g4, 0, none⟩) la la, .slice (some ⟨gh4, 0, none⟩) nh nh] 26) := hw5 ▸ heap_new w4 _
  rw [hw5] at B5 J5
  replace KD := bw_trans KD J5
  replace TD := keep J5 TD
  replace PD := keep J5 PD
  replace hPlD := hPlD.below J5
  replace hPl4 := hPl4.below B5
  clear t0 t1 J4 J5 B5
  go_upto_region 7 with fail
  try rw [hw5]
  clear hw5
  obtain ⟨p0, p1⟩ := blk_2 PD
  obtain ⟨x0, x1⟩ := blk_2 X
  have PE : w5.drew.heap[W.heap.size + 1]? = some (.cells #[.int .i64 x, .int .i64 y] 53) := PD
  have XE : w5.drew.heap[w4.heap.size]? = some (.cells #[.slice (some ⟨g4, 0, none⟩) la la, .slice (some ⟨gh4, 0, none⟩) nh nh] 26) := X
  have TE : w5.drew.heap[W.heap.size]? = some (.cells #[.slice a la ca, .slice ah nh ch] 48) := TD
  have hPlE : Plt w5.drew a la ah nh o hs := hPlD
  have hPl4E : Plt w5.drew (some ⟨g4, 0, none⟩) la (some ⟨gh4, 0, none⟩) nh o hs := hPl4
  have KE : Below W.heap.size W w5.drew := KD.drew
  go_region_held3 (fun w' => (w'.cell? ⟨W.heap.size + 1, 0, none⟩ = some (.int .i64 x) ∧ w'.cell? ⟨W.heap.size + 1, 1, none⟩ = some (.int .i64 y)) ∧ (w'.cell? ⟨w4.heap.size, 0, none⟩ = some (.slice (some ⟨g4, 0, none⟩) la la) ∧ w'.cell? ⟨w4.heap.size, 1, none⟩ = some (.slice (some ⟨gh4, 0, none⟩) nh nh)))
    (first | go_keep | exact ⟨blk_2 PE, blk_2 XE⟩)
    (first
      | (go_at_call 24; refine (toPt_any _ _ _).mono ?_; rintro e w6 ⟨rfl, J⟩; replace KE := bw_trans KE J; replace TE := keep J TE; replace PE := keep J PE; replace XE := keep J XE; replace hPlE := hPlE.below J; replace hPl4E := hPl4E.below J; clear J)
      | (go_at_call 16; refine (plateIn_any _ _ la la nh nh o hs (x, y) _ hPl4E).mono ?_; rintro e w7 ⟨rfl, J⟩; replace KE := bw_trans KE J; replace TE := keep J TE; replace PE := keep J PE; replace XE := keep J XE; replace hPlE := hPlE.below J; replace hPl4E := hPl4E.below J; clear J))
  clear p0 p1 x0 x1 PD X TD hPlD hPl4 KD
  have hne : ∀ b : Int, (b != b) = false := by simp
  obtain ⟨t0, t1⟩ := blk_2 TE
  obtain ⟨x0, x1⟩ := blk_2 XE
  go_wp2_with fail
  have TD : w7.drew.heap[W.heap.size]? = some (.cells #[.slice a la ca, .slice ah nh ch] 48) := TE
  have XD : w7.drew.heap[w4.heap.size]? = some (.cells #[.slice (some ⟨g4, 0, none⟩) la la, .slice (some ⟨gh4, 0, none⟩) nh nh] 26) := XE
  have hPlD : Plt w7.drew a la ah nh o hs := hPlE
  have hPl4D : Plt w7.drew (some ⟨g4, 0, none⟩) la (some ⟨gh4, 0, none⟩) nh o hs := hPl4E
  have KD : Below W.heap.size W w7.drew := KE.drew
  go_region_held3 (fun w' => (w'.cell? ⟨W.heap.size, 0, none⟩ = some (.slice a la ca) ∧ w'.cell? ⟨W.heap.size, 1, none⟩ = some (.slice ah nh ch)) ∧ (w'.cell? ⟨w4.heap.size, 0, none⟩ = some (.slice (some ⟨g4, 0, none⟩) la la) ∧ w'.cell? ⟨w4.heap.size, 1, none⟩ = some (.slice (some ⟨gh4, 0, none⟩) nh nh)))
    (first | go_keep | exact ⟨blk_2 TD, blk_2 XD⟩)
    (first
      | (go_at_call 22; refine (toPlate_any a ah la ca nh ch o hs _ hPlD hn).mono ?_; rintro e w8 ⟨g8, gh8, rfl, hPl8, J⟩; replace KD := bw_trans KD J; replace TD := keep J TD; replace XD := keep J XD; replace hPl4D := hPl4D.below J; clear J)
      | (go_at_call 23; refine (eqPlate_same _ _ _ _ la la nh nh la nh o hs _ hPl4D hPl8 hn).mono ?_; rintro e w9 ⟨rfl, J⟩; replace KD := bw_trans KD J; replace TD := keep J TD; replace XD := keep J XD; clear J))
  go_wp2_with fail
  go_ret
  exact ⟨rfl, KD⟩
end Go.Proofs.Ytbpfinghkaollaa
