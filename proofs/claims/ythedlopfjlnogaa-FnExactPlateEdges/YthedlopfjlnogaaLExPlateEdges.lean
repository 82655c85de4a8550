/-
  OUR OWN TEXT. The exact law of PlateEdges, walked.
-/
import Derived.Test.YthedlopfjlnogaaMarkPl
import Derived.Test.YthedlopfjlnogaaSPlateE
import Derived.Test.YthedlopfjlnogaaOpenPlate
import Derived.Deep.RegionHeld3
namespace Go.Proofs.Ythedlopfjlnogaa
open Go.RowKit Go.Sort

theorem ansS_far {base top lo hi : Nat} {W W' : World} {v : Value} {ss : List (P2 × P2)} (h : AnsS base top W v ss) (F : Far lo hi W W') (hr : top ≤ lo ∨ hi ≤ base) : AnsS base top W' v ss := by
  rcases h with h | ⟨g, c, e, hb, ht, hc, hO, hS⟩
  · exact .inl h
  · have hg := F.block g hO.lt (by omega)
    obtain ⟨cur, h1, h2⟩ := hO
    exact .inr ⟨g, c, e, hb, ht, hc, ⟨cur, hg.trans h1, h2⟩, fun j hj => by
      obtain ⟨c0, c1, c2, c3⟩ := hS j hj
      exact ⟨(World.cell?_of_block (a := ⟨g, j * 4, none⟩) hg).trans c0, (World.cell?_of_block (a := ⟨g, j * 4 + 1, none⟩) hg).trans c1, (World.cell?_of_block (a := ⟨g, j * 4 + 2, none⟩) hg).trans c2, (World.cell?_of_block (a := ⟨g, j * 4 + 3, none⟩) hg).trans c3⟩⟩
set_option maxRecDepth 100000 in
set_option maxHeartbeats 4000000 in
theorem exPlateEdges_walk (W : World) (a : Option Addr) (la ca : Nat) (o : List P2) (ah : Option Addr) (nh ch : Nat) (hs : List (List P2)) (hC : Came W a la ca o) (hH : CameH W ah nh hs) :
    Calls Try.prog 8 #[.agg #[.slice a la ca, .slice ah nh ch]] W fun e w' => e = .returned (.bool true) ∧ Below W.heap.size W w' := by
  have hla := hC.len.2
  have hP := hC.pts
  obtain ⟨hlen, hnm, A, L, C, hS, hHH⟩ := hH
  have hcall := szPlate_any a ah la ca nh ch A L C hla hnm (fun j hj => (hHH j hj).len.2)
  obtain ⟨W1, hW1, BW, T⟩ : ∃ W1, W1 = W.alloc (.cells #[.slice a la ca, .slice ah nh ch] 50) ∧ Below W.heap.size W W1 ∧ W1.heap[W.heap.size]? = some (.cells #[.slice a la ca, .slice ah nh ch] 50) := ⟨_, rfl, (by repeat (first | exact bw_refl _ | assumption | apply bw_drewN | apply bw_drew | apply bw_alloc | refine bw_set ?_ (by simp) _)), heap_new _ _⟩
  replace hcall := hcall W1 ((hS.below BW).grow BW.size)
  have hW1s : W1.heap.size = W.heap.size + 1 := by rw [hW1]; simp
  obtain ⟨t0, t1⟩ := blk_2 T
  go_enter Try.func8, Try.ntmps8
  go_upto_region 2 with fail
  rw [← hW1]
  clear hW1
  go_wp2_with fail
  refine hcall.mono ?_
  clear hcall
  rintro e w1 ⟨J1, hr⟩
  have K1 := bw_trans BW J1
  rcases hr with rfl | ⟨r, r0, r1, rfl, hla1, hn, hLL⟩
  · go_wp2_with fail
    go_ret
    exact ⟨rfl, K1⟩
  have hr0 : ¬ (r < 0) := by omega
  have hPl : Plt w1 a la ah nh o hs := ⟨hla1, (hP.below K1).grow K1.size, hlen, A, L, C, (hS.below K1).grow K1.size, fun j hj => ⟨hLL j hj, ((hHH j hj).pts.below K1).grow K1.size⟩⟩
  have hLs : ∀ j, j < nh → (hAt hs j).length ≤ 1048576 := fun j hj => by have := (hHH j hj).len.1; have := hLL j hj; show (hs[j]?.getD []).length ≤ _; omega
  have HPL : Hid (∀ w', Below W.heap.size W w' → Plt w' a la ah nh o hs) := fun w' K => ⟨hla1, (hP.below K).grow K.size, hlen, A, L, C, (hS.below K).grow K.size, fun j hj => ⟨hLL j hj, ((hHH j hj).pts.below K).grow K.size⟩⟩
  clear hS hHH hP hC hLL
  replace T := keep J1 T
  clear t0 t1
  obtain ⟨t0, t1⟩ := blk_2 T
  have hse := plE_len o hs
  have n2 : ¬ (1 + 4 * ((plE o hs).length : Int) < 0) := by omega
  have zJ1 := J1.size
  go_wp2_with fail
  refine (toPlate_any a ah la ca nh ch o hs w1 hPl hn).mono ?_
  rintro e w2 ⟨g2, gh2, rfl, hPl2, J2⟩
  have K2 := bw_trans K1 J2
  replace hPl := hPl.below J2
  replace T := keep J2 T
  go_wp2_with fail
  refine (sPlateEdges_ans _ _ la la nh nh o hs w2 hPl2).mono ?_
  rintro e w3 ⟨v3, rfl, A3, J3⟩
  have K3 := bw_trans K2 J3
  replace hPl := hPl.below J3
  replace T := keep J3 T
  clear t0 t1
  obtain ⟨t0, t1⟩ := blk_2 T
  have zT3 := blk_lt T
  go_wp2_with fail
  refine (toPlate_own a ah la ca nh ch o hs w3 hPl hn).mono ?_
  rintro e w4 ⟨g4, gh4, rfl, ⟨hg4, hb4, hgh4, hr4⟩, J4⟩
  have hPl4 : Plt w4 (some ⟨g4, 0, none⟩) la (some ⟨gh4, 0, none⟩) nh o hs := plt_of hb4 hPl.2.1.1 hla1 hr4 hlen hLs
  have K4 := bw_trans K3 J4
  replace hPl := hPl.below J4
  replace T := keep J4 T
  replace A3 := A3.below J4
  have z4 := J4.size
  clear t0 t1
  have B5 : Below w4.heap.size w4 (w4.alloc (.cells #[.slice (some ⟨g4, 0, none⟩) la la, .slice (some ⟨gh4, 0, none⟩) nh nh] 26)) := (by repeat (first | exact bw_refl _ | assumption | apply bw_drewN | apply bw_drew | apply bw_alloc | refine bw_set ?_ (by simp) _))
  have X := heap_new w4 (.cells #[.slice (some ⟨g4, 0, none⟩) la la, .slice (some ⟨gh4, 0, none⟩) nh nh] 26)
  replace hPl := hPl.below B5
  replace hPl4 := hPl4.below B5
  replace T := keep B5 T
  replace A3 := A3.below B5
  go_wp2_with fail
  refine (plateEdges_ans _ _ la la nh nh o hs _ hPl4).mono ?_
  rintro e w6 ⟨v6, rfl, A6, J6⟩
  have J46 := bw_trans B5 J6
  have K6 := bw_trans K4 J46
  replace hPl := hPl.below J6
  replace hPl4 := hPl4.below J6
  replace T := keep J6 T
  replace X := keep J6 X
  replace A3 := A3.below J6
  simp only [World.size_alloc] at A6
  go_wp2_with fail
  refine (eqSegs_same _ _ _ _ v6 v3 _ _ A6 A3 (by omega)).mono ?_
  rintro e w7 ⟨rfl, J7⟩
  replace J46 := bw_trans J46 J7
  replace K6 := bw_trans K6 J7
  replace hPl := hPl.below J7
  replace hPl4 := hPl4.below J7
  replace T := keep J7 T
  replace X := keep J7 X
  replace A3 := A3.below J7
  replace A6 := A6.below J7
  obtain ⟨t0, t1⟩ := blk_2 T
  obtain ⟨x0, x1⟩ := blk_2 X
  go_wp2_with fail
  have TD : w7.drew.heap[W.heap.size]? = some (.cells #[.slice a la ca, .slice ah nh ch] 50) := T
  have XD : w7.drew.heap[w4.heap.size]? = some (.cells #[.slice (some ⟨g4, 0, none⟩) la la, .slice (some ⟨gh4, 0, none⟩) nh nh] 26) := X
  have hPlD : Plt w7.drew a la ah nh o hs := hPl
  have hPl4D : Plt w7.drew (some ⟨g4, 0, none⟩) la (some ⟨gh4, 0, none⟩) nh o hs := hPl4
  have KD : Below W.heap.size W w7.drew := K6.drew
  have J4D : Below w4.heap.size w4 w7.drew := J46.drew
  have A3D := A3.below (bw_drew (bw_refl w7))
  have A6D := A6.below (bw_drew (bw_refl w7))
  go_region_held3 (fun w' => (w'.cell? ⟨W.heap.size, 0, none⟩ = some (.slice a la ca) ∧ w'.cell? ⟨W.heap.size, 1, none⟩ = some (.slice ah nh ch)) ∧ w'.cell? ⟨w4.heap.size, 0, none⟩ = some (.slice (some ⟨g4, 0, none⟩) la la) ∧ w'.cell? ⟨w4.heap.size, 1, none⟩ = some (.slice (some ⟨gh4, 0, none⟩) nh nh))
    (first | go_keep | exact ⟨blk_2 TD, blk_2 XD⟩)
    (first
      | (go_at_call 27; refine (toPlate_any a ah la ca nh ch o hs _ hPlD hn).mono ?_; rintro e w8 ⟨g8, gh8, rfl, hPl8, J8⟩; replace KD := bw_trans KD J8; replace J4D := bw_trans J4D J8; replace TD := keep J8 TD; replace XD := keep J8 XD; replace hPl4D := hPl4D.below J8; replace hPlD := hPlD.below J8; replace A3D := A3D.below J8; replace A6D := A6D.below J8)
      | (go_at_call 29; refine (eqPlate_same _ _ _ _ la la nh nh la nh o hs _ hPl4D hPl8 hn).mono ?_; rintro e w9 ⟨rfl, J9⟩; replace KD := bw_trans KD J9; replace J4D := bw_trans J4D J9; replace TD := keep J9 TD; replace XD := keep J9 XD; replace hPlD := hPlD.below J9; replace A3D := A3D.below J9; replace A6D := A6D.below J9))
  clear t0 t1 x0 x1 T X A3 A6 hPl hPl4 K6
  obtain ⟨x0, x1⟩ := blk_2 XD
  go_wp2_with fail
  refine (markPlate_any w3.heap.size g4 gh4 la nh o hs w4 w9 J4D hla1 hn hLs hg4 hb4 hgh4 hr4).mono ?_
  rintro e w10 ⟨⟨u, hu, rfl⟩, F10⟩
  have hu0 : ¬ (u < 0) := by omega
  have z9 := J4D.size
  have K10 : Below W.heap.size W w10 := KD.trans ((F10.below (by omega)).mono K3.size)
  have A3E := ansS_far A3D F10 (.inl (Nat.le_refl _))
  have A6E := ansS_far A6D F10 (.inr (by omega))
  have TE : w10.heap[W.heap.size]? = some (.cells #[.slice a la ca, .slice ah nh ch] 50) := (F10.block _ (blk_lt TD) (.inl (by omega))).trans TD
  clear x0 x1 TD XD A3D A6D
  go_wp2_with fail
  refine (eqSegs_same _ _ _ _ v6 v3 _ _ A6E A3E (by omega)).mono ?_
  rintro e w11 ⟨rfl, J11⟩
  replace K10 := bw_trans K10 J11
  replace A3E := A3E.below J11
  replace A6E := A6E.below J11
  replace TE := keep J11 TE
  go_wp2_with fail
  refine (markSegs_ans _ _ v6 _ _ A6E (by omega)).mono ?_
  rintro e w12 ⟨rfl, N12, r12, hr12, O12⟩
  have z11 : w4.heap.size ≤ w11.heap.size := by have := F10.size; have := J11.size; omega
  have K12 : Below W.heap.size W w12 := K10.trans (O12.below' (B := W.heap.size) (by have := K4.size; omega) (by have := K4.size; omega))
  replace A3E := A3E.only O12 (.inr (by omega))
  replace TE := keepO O12 TE (by omega)
  go_wp2_with fail
  refine (heldSegs_ans v6 _ _ N12 (by omega)).mono ?_
  rintro e w13 ⟨rfl, J13⟩
  replace K12 := bw_trans K12 J13
  replace A3E := A3E.below J13
  replace N12 := N12.below J13
  replace TE := keep J13 TE
  obtain ⟨t0, t1⟩ := blk_2 TE
  go_wp2_with fail
  refine (toPlate_any a ah la ca nh ch o hs w13 (HPL.out _ K12) hn).mono ?_
  rintro e w14 ⟨g14, gh14, rfl, hPl14, J14⟩
  replace K12 := bw_trans K12 J14
  replace A3E := A3E.below J14
  replace N12 := N12.below J14
  go_wp2_with fail
  refine (plateEdges_ans _ _ la la nh nh o hs _ hPl14).mono ?_
  rintro e w15 ⟨v15, rfl, A15, J15⟩
  replace K12 := bw_trans K12 J15
  replace A3E := A3E.below J15
  replace N12 := N12.below J15
  go_wp2_with fail
  refine (eqSegs_same _ _ _ _ v15 v3 _ _ A15 A3E (by omega)).mono ?_
  rintro e w16 ⟨rfl, J16⟩
  replace K12 := bw_trans K12 J16
  replace N12 := N12.below J16
  go_wp2_with fail
  refine (heldSegs_ans v6 _ _ N12 (by omega)).mono ?_
  rintro e w17 ⟨rfl, J17⟩
  go_wp2_with fail
  go_ret
  exact ⟨rfl, bw_trans K12 J17⟩
end Go.Proofs.Ythedlopfjlnogaa
