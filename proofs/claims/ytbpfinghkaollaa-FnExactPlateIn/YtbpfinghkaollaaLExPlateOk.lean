/-
  OUR OWN TEXT. The exact law of PlateOk, walked.
-/
import Derived.Test.YtbpfinghkaollaaToPlate2
import Derived.Test.YtbpfinghkaollaaOpenPlate
import Derived.Test.YtbpfinghkaollaaPlateC
import Derived.Test.YtbpfinghkaollaaSPlateOk
import Derived.Deep.RegionHeld3
namespace Go.Proofs.Ytbpfinghkaollaa
open Go.RowKit Go.Sort

set_option maxRecDepth 100000 in
set_option maxHeartbeats 2000000 in
theorem exPlateOk_walk (W : World) (a : Option Addr) (la ca : Nat) (o : List P2) (ah : Option Addr) (nh ch : Nat) (hs : List (List P2)) (hC : Came W a la ca o) (hH : CameH W ah nh hs) :
    Calls Try.prog 7 #[.agg #[.slice a la ca, .slice ah nh ch]] W fun e w' => e = .returned (.bool true) ∧ Below W.heap.size W w' := by
  have hla := hC.len.2
  have hP := hC.pts
  obtain ⟨hlen, hnm, A, L, C, hS, hHH⟩ := hH
  have hcall := szPlate_any a ah la ca nh ch A L C hla hnm (fun j hj => (hHH j hj).len.2)
  obtain ⟨W1, hW1, BW, T⟩ : ∃ W1, W1 = W.alloc (.cells #[.slice a la ca, .slice ah nh ch] 48) ∧ Below W.heap.size W W1 ∧ W1.heap[W.heap.size]? = some (.cells #[.slice a la ca, .slice ah nh ch] 48) := ⟨_, rfl, (by repeat (first | exact bw_refl _ | assumption | apply bw_drewN | apply bw_drew | apply bw_alloc | refine bw_set ?_ (by simp) _)), heap_new _ _⟩
  replace hcall := hcall W1 ((hS.below BW).grow BW.size)
  obtain ⟨t0, t1⟩ := blk_2 T
  go_enter Try.func7, Try.ntmps7
  go_upto_region 2 with fail
  rw [← hW1]
  clear hW1
  go_wp2_with fail
  refine hcall.mono ?_
  clear hcall
  rintro e w1 ⟨J1, hr⟩
  have K1 := bw_trans BW J1
  rcases hr with rfl | ⟨r, r0, r1, rfl, hla1, hn, hLL⟩
  · go_wp2_with fail
    go_ret
    exact ⟨rfl, K1⟩
  have hr0 : ¬ (r < 0) := by omega
  have hPl : Plt w1 a la ah nh o hs := ⟨hla1, (hP.below K1).grow K1.size, hlen, A, L, C, (hS.below K1).grow K1.size, fun j hj => ⟨hLL j hj, ((hHH j hj).pts.below K1).grow K1.size⟩⟩
  clear hS hHH hP hC hLL
  replace T := keep J1 T
  clear t0 t1
  obtain ⟨t0, t1⟩ := blk_2 T
  go_wp2_with fail
  refine (toPlate_any a ah la ca nh ch o hs w1 hPl hn).mono ?_
  rintro e w2 ⟨g2, gh2, rfl, hPl2, J2⟩
  have K2 := bw_trans K1 J2
  replace hPl := hPl.below J2
  replace T := keep J2 T
  go_wp2_with fail
  refine (sPlateOk_any _ _ la la nh nh o hs w2 hPl2).mono ?_
  rintro e w3 ⟨rfl, J3⟩
  have K3 := bw_trans K2 J3
  replace hPl := hPl.below J3
  replace T := keep J3 T
  clear t0 t1
  obtain ⟨t0, t1⟩ := blk_2 T
  go_wp2_with fail
  refine (toPlate_any a ah la ca nh ch o hs w3 hPl hn).mono ?_
  rintro e w4 ⟨g4, gh4, rfl, hPl4, J4⟩
  have K4 := bw_trans K3 J4
  replace hPl := hPl.below J4
  replace T := keep J4 T
  clear t0 t1
  have B5 : Below w4.heap.size w4 (w4.alloc (.cells #[.slice (some ⟨g4, 0, none⟩) la la, .slice (some ⟨gh4, 0, none⟩) nh nh] 26)) := (by repeat (first | exact bw_refl _ | assumption | apply bw_drewN | apply bw_drew | apply bw_alloc | refine bw_set ?_ (by simp) _))
  have X := heap_new w4 (.cells #[.slice (some ⟨g4, 0, none⟩) la la, .slice (some ⟨gh4, 0, none⟩) nh nh] 26)
  replace hPl := hPl.below B5
  replace hPl4 := hPl4.below B5
  replace T := keep B5 T
  go_wp2_with fail
  refine (plateOk_any _ _ la la nh nh o hs _ hPl4).mono ?_
  rintro e w6 ⟨rfl, J6⟩
  have K6 := bw_trans (bw_trans K4 B5) J6
  replace hPl := hPl.below J6
  replace hPl4 := hPl4.below J6
  replace T := keep J6 T
  replace X := keep J6 X
  have hne : ∀ b : Bool, (b != b) = false := by simp
  obtain ⟨t0, t1⟩ := blk_2 T
  obtain ⟨x0, x1⟩ := blk_2 X
  go_wp2_with fail
  have TD : w6.drew.heap[W.heap.size]? = some (.cells #[.slice a la ca, .slice ah nh ch] 48) := T
  have XD : w6.drew.heap[w4.heap.size]? = some (.cells #[.slice (some ⟨g4, 0, none⟩) la la, .slice (some ⟨gh4, 0, none⟩) nh nh] 26) := X
  have hPlD : Plt w6.drew a la ah nh o hs := hPl
  have hPl4D : Plt w6.drew (some ⟨g4, 0, none⟩) la (some ⟨gh4, 0, none⟩) nh o hs := hPl4
  have KD : Below W.heap.size W w6.drew := K6.drew
  go_region_held3 (fun w' => (w'.cell? ⟨W.heap.size, 0, none⟩ = some (.slice a la ca) ∧ w'.cell? ⟨W.heap.size, 1, none⟩ = some (.slice ah nh ch)) ∧ w'.cell? ⟨w4.heap.size, 0, none⟩ = some (.slice (some ⟨g4, 0, none⟩) la la) ∧ w'.cell? ⟨w4.heap.size, 1, none⟩ = some (.slice (some ⟨gh4, 0, none⟩) nh nh))
    (first | go_keep | exact ⟨blk_2 TD, blk_2 XD⟩)
    (first
      | (go_at_call 22; refine (toPlate_any a ah la ca nh ch o hs _ hPlD hn).mono ?_; rintro e w7 ⟨g7, gh7, rfl, hPl7, J7⟩; replace KD := bw_trans KD J7; replace TD := keep J7 TD; replace XD := keep J7 XD; replace hPl4D := hPl4D.below J7)
      | (go_at_call 23; refine (eqPlate_same _ _ _ _ la la nh nh la nh o hs _ hPl4D hPl7 hn).mono ?_; rintro e w8 ⟨rfl, J8⟩; replace KD := bw_trans KD J8; replace TD := keep J8 TD; replace XD := keep J8 XD))
  go_wp2_with fail
  go_ret
  exact ⟨rfl, KD⟩
end Go.Proofs.Ytbpfinghkaollaa
