/-
  OUR OWN TEXT. PlateEdges, by contract, at every plate.
-/
import Derived.Test.YthedlopfjlnogaaPlateE
import Derived.Test.YthedlopfjlnogaaLExLoopEdges
namespace Go.Proofs.Ythedlopfjlnogaa
open Go.RowKit Go.Shelf Go.Sort

/-- The edges that are told of a plate. -/
def plE (o : List P2) (hs : List (List P2)) : List (P2 × P2) := if plV o hs then segsL o ++ hs.flatMap segsL else []
theorem flat_len (hs : List (List P2)) (h : ∀ x ∈ hs, x.length ≤ 8) : (hs.flatMap segsL).length ≤ 8 * hs.length := by
  induction hs with
  | nil => simp
  | cons x xs ih =>
    have h1 := h x (by simp)
    have h2 := ih (fun y hy => h y (by simp [hy]))
    rw [List.flatMap_cons, List.length_append, segsL_len, List.length_cons]; omega
theorem plE_len (o : List P2) (hs : List (List P2)) : (plE o hs).length ≤ 24 := by
  unfold plE
  cases hv : plV o hs
  · simp
  · have L := (plV_iff o hs).1 hv
    have h0 := (okV_pos L.out).2
    have h1 := plV_len hv
    have h2 := flat_len hs (fun x hx => (okV_pos (L.ok x hx)).2)
    rw [if_pos rfl, List.length_append, segsL_len]; omega
theorem edgR_eq (x : RingT) (xs : List RingT) (hs : List (List P2)) (h : xs.map RingT.pts = hs) : edgR (x :: xs) = segsL x.pts ++ hs.flatMap segsL := by
  rw [← h]; simp [edgR, List.flatMap_map]
theorem ansS_mono {base base' top : Nat} {W : World} {v : Value} {ss : List (P2 × P2)} (h : AnsS base top W v ss) (hb : base' ≤ base) : AnsS base' top W v ss := by
  rcases h with h | ⟨g, c, e, h1, r⟩
  · exact .inl h
  · exact .inr ⟨g, c, e, by omega, r⟩
theorem collect_any (B : Nat) (q : Option Addr) (rs : List RingT) (w : World) (hB : w.cell? ⟨B, 0, none⟩ = some (.pointer q)) (hR : RingN w.heap.size w q rs) (hes : (edgR rs).length ≤ 1000) :
    Calls Try.prog 54 #[.func (.func 85) #[] #[.pointer (some ⟨B, 0, none⟩)]] w fun e W' => ∃ v, e = .returned v ∧ W'.ownsRow w.heap.size 44 4 v (edgR rs).length (cellsS (edgR rs)) ∧ Below w.heap.size w W' := by
  have hcall := callsIn_wide.1 (appendSeq_in 10 (Nat.le_refl _) B q rs w hB hR hes)
  go_enter Try.func54, Try.ntmps54
  go_wp2_with fail
  refine hcall.mono ?_
  rintro e w1 ⟨v, rfl, ho, J⟩
  go_wp2_with fail
  go_ret
  exact ⟨v, rfl, ho, J⟩
set_option maxRecDepth 100000 in
set_option maxHeartbeats 2000000 in
theorem plateEdges_ans (a ah : Option Addr) (la ca nh ch : Nat) (o : List P2) (hs : List (List P2)) (w : World) (h : Plt w a la ah nh o hs) :
    Calls Try.prog 20 #[.agg #[.slice a la ca, .slice ah nh ch]] w fun e W' => ∃ v, e = .returned v ∧ AnsS w.heap.size W'.heap.size W' v (plE o hs) ∧ Below w.heap.size w W' := by
  have B0 : Below w.heap.size w (w.alloc (.cells #[.slice a la ca, .slice ah nh ch] 26)) := (by repeat (first | exact bw_refl _ | assumption | apply bw_drewN | apply bw_drew | apply bw_alloc | refine bw_set ?_ (by simp) _))
  have hlen := plE_len o hs
  cases hv : plV o hs
  · go_enter Try.func20, Try.ntmps20
    go_wp2_with fail
    refine (board_any a ah la ca nh ch o hs _ (h.below B0)).mono ?_
    rw [hv]
    rintro e w1 ⟨p, rfl, J, _⟩
    go_wp2_with fail
    go_ret
    exact ⟨_, rfl, .inl ⟨by unfold plE; rw [hv]; rfl, _, _, rfl⟩, bw_trans B0 J⟩
  · have hE : plE o hs = segsL o ++ hs.flatMap segsL := by unfold plE; rw [hv]; rfl
    go_enter Try.func20, Try.ntmps20
    go_wp2_with fail
    refine (board_any a ah la ca nh ch o hs _ (h.below B0)).mono ?_
    rintro e w1 ⟨p, rfl, J, hR⟩
    obtain ⟨b, xs, rfl, hR, hx⟩ := hR hv
    rw [hv]
    have K1 := bw_trans B0 J
    have hedg := edgR_eq ⟨a, la, ca, o⟩ xs hs hx
    rw [← hE] at hedg
    go_wp2_with fail
    refine (callsIn_wide.1 (ringEdges_in 10 (some ⟨b, 0, none⟩) w1)).mono ?_
    rintro e w2 ⟨rfl, rfl⟩
    have B1 : Below w1.heap.size w1 (w1.alloc (.cells #[.pointer (some ⟨b, 0, none⟩)] 80)) := (by repeat (first | exact bw_refl _ | assumption | apply bw_drewN | apply bw_drew | apply bw_alloc | refine bw_set ?_ (by simp) _))
    have hRN := RingL.ringN (Nat.le_refl _) (RingL.grow B1.size (RingL.below B1 (Nat.le_refl _) hR))
    go_wp2_with fail
    refine (collect_any w1.heap.size (some ⟨b, 0, none⟩) (⟨a, la, ca, o⟩ :: xs) _ (Lies.c1 (Lies.new w1 _ _)) hRN (by rw [hedg]; omega)).mono ?_
    rw [hedg]
    rintro e w3 ⟨v, rfl, ho, J3⟩
    go_wp2_with fail
    go_ret
    have zz := K1.size
    exact ⟨v, rfl, ansS_mono (AnsS.of_owns ho rfl) (by simp; omega), bw_trans K1 (bw_trans B1 J3)⟩
end Go.Proofs.Ythedlopfjlnogaa
