/-
  OUR OWN TEXT. What the exact laws mark of a plate, by contract: nothing but the plate's own memory is written.
-/
import Derived.Test.YthedlopfjlnogaaMarks
import Derived.Test.YthedlopfjlnogaaToPlate2
namespace Go.Proofs.Ythedlopfjlnogaa
open Go.RowKit Go.Sort

/-- Nothing that lay ahead of lo, or from hi on, is turned. -/
structure Far (lo hi : Nat) (W W' : World) : Prop where
  os : W'.os = W.os
  tape : W'.tape = W.tape
  output : W'.output = W.output
  size : W.heap.size ≤ W'.heap.size
  block : ∀ k, k < W.heap.size → (k < lo ∨ hi ≤ k) → W'.heap[k]? = W.heap[k]?
theorem Far.refl (lo hi : Nat) (W : World) : Far lo hi W W := ⟨rfl, rfl, rfl, Nat.le_refl _, fun _ _ _ => rfl⟩
theorem Far.trans {lo hi : Nat} {A B C : World} (h : Far lo hi A B) (k : Far lo hi B C) : Far lo hi A C :=
  ⟨k.os.trans h.os, k.tape.trans h.tape, k.output.trans h.output, Nat.le_trans h.size k.size, fun i hi' hc => (k.block i (Nat.lt_of_lt_of_le hi' h.size) hc).trans (h.block i hi' hc)⟩
theorem Far.of_only {lo hi r : Nat} {A B : World} (h : Only r A B) (h1 : lo ≤ r) (h2 : r < hi) : Far lo hi A B := ⟨h.os, h.tape, h.output, h.size, fun k hk hc => h.block k (by omega) hk⟩
theorem Far.of_below {lo hi : Nat} {A B : World} (h : Below A.heap.size A B) : Far lo hi A B := ⟨h.os, h.tape, h.output, h.size, fun k hk _ => h.block k hk⟩
theorem Far.below {lo hi : Nat} {A B : World} (h : Far lo hi A B) (hl : lo ≤ A.heap.size) : Below lo A B := ⟨h.os, h.tape, h.output, h.size, fun k hk => h.block k (by omega) (.inl hk)⟩
set_option maxRecDepth 100000 in
set_option maxHeartbeats 2000000 in
theorem markPtSS_any (lo hi gh nh : Nat) (F Ln : Nat → Nat) (k : Int) (w : World) (hrow : ∀ j, j < nh → w.cell? ⟨gh, j, none⟩ = some (.slice (some ⟨F j, 0, none⟩) (Ln j) (Ln j))) (hgh : gh < w.heap.size)
    (hF : ∀ j, j < nh → gh < F j ∧ lo ≤ F j ∧ F j < hi ∧ Own w (F j) (Ln j * 2) 33 ∧ Ln j ≤ 1048576) (hn : nh ≤ 1048576) (k0 : 0 ≤ k) (k1 : k ≤ 1099511627776) :
    Calls Try.prog 67 #[.slice (some ⟨gh, 0, none⟩) nh nh, .int .i64 k] w fun e w' => (∃ u : Int, 0 ≤ u ∧ e = .returned (.int .i64 u)) ∧ Far lo hi w w' := by
  go_enter Try.func67, Try.ntmps67
  go_wp2_with fail
  go_loopw [1, 5] (fun kk i wr => ∃ (j : Nat) (u : Int), j ≤ nh ∧ i = .int .i64 j ∧ kk = .int .i64 u ∧ (0 ≤ u ∧ u ≤ k + 2097152 * (j : Int)) ∧ (∀ q, q < nh → Own wr (F q) (Ln q * 2) 33) ∧ wr.heap[gh]? = w.heap[gh]? ∧ Far lo hi w wr) (fun _ i _ => nh - (intOf i).toNat)
  case atStart => exact ⟨0, k, Nat.zero_le _, rfl, rfl, ⟨k0, by omega⟩, fun q hq => (hF q hq).2.2.2.1, rfl, Far.refl _ _ _⟩
  case round =>
    obtain ⟨j, u, hj, rfl, rfl, ⟨u0, u1⟩, hO, hg, hfar⟩ := hrel
    by_cases hlt : j < nh
    · have i0 : (0 : Int) ≤ (j : Int) := Int.natCast_nonneg _
      have i1 : (j : Int) < (nh : Int) := by omega
      obtain ⟨f1, f2, f3, _, f5⟩ := hF j hlt
      have cj : wr.cell? ⟨gh, j, none⟩ = some (.slice (some ⟨F j, 0, none⟩) (Ln j) (Ln j)) := (World.cell?_of_block (a := ⟨gh, j, none⟩) hg).trans (hrow j hlt)
      have hcall := markPts_any (F j) (Ln j) (Ln j) (Ln j * 2) u wr (hO j hlt) (Nat.le_refl _) f5 u0 (by omega)
      have zw := hfar.size
      go_wp2_with (go_at_call 37; refine hcall.mono ?_; rintro e w3 ⟨rfl, hO3, O3⟩)
      go_roundw
      case rel =>
        refine ⟨j + 1, u + 2 * (Ln j : Int), by omega, by simp, by first | rfl | simp, ⟨by omega, by omega⟩, fun q hq => ?_, (O3.block gh (by omega) (by omega)).trans hg, hfar.trans (Far.of_only O3 f2 f3)⟩
        by_cases e : F q = F j
        · obtain ⟨cur, h, hs⟩ := hO q hq
          obtain ⟨cur3, h3, hs3⟩ := hO3
          obtain ⟨curj, hj2, hsj⟩ := hO j hlt
          rw [e, hj2] at h
          cases h
          exact ⟨cur3, by rw [e]; exact h3, by omega⟩
        · exact (hO q hq).only O3 e
      case measure => simp [intOf]; omega
    · obtain rfl : j = nh := by omega
      go_wp2
      go_ret
      exact ⟨⟨u, u0, rfl⟩, hfar⟩
set_option maxRecDepth 100000 in
set_option maxHeartbeats 2000000 in
theorem markPlate_any (lo g gh la nh : Nat) (o : List P2) (hs : List (List P2)) (w4 w : World) (J4 : Below w4.heap.size w4 w) (hla : la ≤ 1048576) (hn : nh ≤ 1048576) (hL : ∀ j, j < nh → (hAt hs j).length ≤ 1048576) (h1 : lo ≤ g) (hb : PtBlk w4 g la o la) (h2 : lo ≤ gh) (hr : HRow w4 gh nh hs nh) :
    Calls Try.prog 30 #[.agg #[.slice (some ⟨g, 0, none⟩) la la, .slice (some ⟨gh, 0, none⟩) nh nh], .int .i64 1] w fun e w' => (∃ u : Int, 0 ≤ u ∧ e = .returned (.int .i64 u)) ∧ Far lo w4.heap.size w w' := by
  obtain ⟨W, hW, BW, T⟩ : ∃ W, W = w.alloc (.cells #[.slice (some ⟨g, 0, none⟩) la la, .slice (some ⟨gh, 0, none⟩) nh nh] 26) ∧ Below w.heap.size w W ∧ W.heap[w.heap.size]? = some (.cells #[.slice (some ⟨g, 0, none⟩) la la, .slice (some ⟨gh, 0, none⟩) nh nh] 26 (0, 0)) := ⟨_, rfl, (by repeat (first | exact bw_refl _ | assumption | apply bw_drewN | apply bw_drew | apply bw_alloc | refine bw_set ?_ (by simp) _)), heap_new _ _⟩
  have BW' := bw_trans J4 BW
  have zJ := J4.size
  have zg := hb.lt
  have zgh := hr.lt
  have hOg : Own W g (la * 2) 33 := Own.below (by obtain ⟨cur, h, hs, _⟩ := hb; exact ⟨cur, h, hs⟩) BW'
  have hgne : g ≠ gh := by
    obtain ⟨cur, h, _⟩ := hb
    obtain ⟨cur2, h3, _⟩ := hr
    intro e; rw [e, h3] at h; simp at h
  obtain ⟨cur, hc, hsz, hcf⟩ := hr
  obtain ⟨F, hF⟩ := Go.Deep.choose_lt (n := nh) (p := fun j gj => gh < gj ∧ cur[j]? = some (.slice (some ⟨gj, 0, none⟩) (hAt hs j).length (hAt hs j).length) ∧ PtBlk w4 gj (hAt hs j).length (hAt hs j) (hAt hs j).length) hcf
  obtain ⟨t0, t1⟩ := blk_2 T
  have zT := blk_lt T
  go_enter Try.func30, Try.ntmps30
  go_upto_region 1 with fail
  rw [← hW]
  clear hW
  go_wp2_with fail
  refine (markPts_any g la la (la * 2) 1 W hOg (Nat.le_refl _) hla (by omega) (by omega)).mono ?_
  rintro e w1 ⟨rfl, hO1, O1⟩
  obtain ⟨t0, t1⟩ := blk_2 (keepO O1 T (by omega))
  have hc1 : w1.heap[gh]? = some (.cells cur 23 (0, 0)) := keepO O1 (keep BW' hc) (by omega)
  have zw1 := O1.size
  have zBW := BW.size
  go_wp2_with fail
  refine (markPtSS_any lo w4.heap.size gh nh F (fun j => (hAt hs j).length) (1 + 2 * (la : Int)) w1 (fun j hj => by rw [row_cell hc1]; exact (hF j hj).2.1) (by omega) (fun j hj => ?_) hn (by omega) (by omega)).mono ?_
  · obtain ⟨q1, q2, q3⟩ := hF j hj
    have ql := q3.lt
    refine ⟨q1, by omega, by omega, ?_, hL j hj⟩
    have q4 : Own W (F j) ((hAt hs j).length * 2) 33 := Own.below (by obtain ⟨cur, h, hs, _⟩ := q3; exact ⟨cur, h, hs⟩) BW'
    by_cases e : F j = g
    · obtain ⟨c1', k1, k2⟩ := q4
      obtain ⟨c2', k3, k4⟩ := hOg
      obtain ⟨c3', k5, k6⟩ := hO1
      rw [e, k3] at k1; cases k1
      exact ⟨c3', by rw [e]; exact k5, by omega⟩
    · exact q4.only O1 e
  · rintro e w2 ⟨⟨u, hu, rfl⟩, hfar⟩
    go_wp2_with fail
    go_ret
    exact ⟨⟨u, hu, rfl⟩, (Far.of_below BW).trans ((Far.of_only O1 h1 (by omega)).trans hfar)⟩
end Go.Proofs.Ythedlopfjlnogaa
