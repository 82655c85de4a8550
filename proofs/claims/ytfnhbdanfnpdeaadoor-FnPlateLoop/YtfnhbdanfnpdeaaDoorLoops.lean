/-
  OUR OWN TEXT. All rings of a board are loops; its holes lie free: by contract.
-/
import Derived.Test.YtfnhbdanfnpdeaaDoorAround
import Derived.LoopN
namespace Go.Proofs.YtfnhbdanfnpdeaaDoor
open Go.RowKit Go.Sort

set_option maxRecDepth 100000 in
set_option maxHeartbeats 4000000 in
theorem allLoops_any (b : Nat) (xs : List RingT) (w : World) (h : RingL w.heap.size w (some ⟨b, 0, none⟩) xs) :
    Calls Tryd.prog 68 #[.pointer (some ⟨b, 0, none⟩)] w fun e W' => e = .returned (.bool (xs.all fun x => okV x.pts)) ∧ Below w.heap.size w W' := by
  go_enter Tryd.func68, Tryd.ntmps68
  go_wp2_with fail
  go_loopw [3] (fun p wr => ∃ q rest, p = .pointer q ∧ RingL wr.heap.size wr q rest ∧ (xs.all fun x => okV x.pts) = (rest.all fun x => okV x.pts) ∧ Below w.heap.size w wr) (fun p wr => ringsLeft wr p)
  case atStart => exact ⟨_, xs, rfl, h, rfl, bw_refl _⟩
  case round =>
    obtain ⟨q, rest, rfl, hL, he, hnx⟩ := hrel
    cases rest with
    | nil =>
      obtain rfl : q = none := hL
      have e1 : Hid ((xs.all fun x => okV x.pts) = true) := by change _ = _; rw [he]; rfl
      clear he
      go_wp2_with fail
      go_ret
      exact ⟨ret_bool e1.out.symm, hnx⟩
    | cons y ys =>
      have hL' := hL
      obtain ⟨b1, q', t, rfl, hb, hlen, hP, hr⟩ := hL
      obtain ⟨d0, d1, _, _⟩ := lies2 hb
      have hcall := ok_any y.a y.len y.cap y.pts hlen wr hP
      rw [List.all_cons] at he
      cases hok : okV y.pts
      · rw [hok] at hcall he
        have e1 : Hid ((xs.all fun x => okV x.pts) = false) := he
        clear he
        go_wp2_with (go_at_call 30; refine hcall.mono ?_; rintro e v ⟨rfl, J⟩)
        go_ret
        exact ⟨ret_bool e1.out.symm, bw_trans hnx J⟩
      · rw [hok] at hcall he
        rw [Bool.true_and] at he
        have e1 : Hid ((xs.all fun x => okV x.pts) = (ys.all fun x => okV x.pts)) := he
        clear he
        go_wp2_with (go_at_call 30; refine hcall.mono ?_; rintro e v ⟨rfl, J⟩; obtain ⟨d0', d1', _, _⟩ := lies2 (hb.below J))
        go_roundw
        case rel => exact ⟨q', ys, rfl, (hr.below J (Nat.le_refl _)).grow J.size, e1.out, bw_trans hnx J⟩
        case measure => rw [ringsLeft_eq (hr.below J (Nat.le_refl _)), ringsLeft_eq hL']; simp

set_option maxRecDepth 100000 in
set_option maxHeartbeats 4000000 in
theorem holesFree_0 (b : Nat) (o : RingT) (w : World) (hR : RingL w.heap.size w (some ⟨b, 0, none⟩) [o]) :
    Calls Tryd.prog 69 #[.pointer (some ⟨b, 0, none⟩)] w fun e W' => e = .returned (.bool true) ∧ Below w.heap.size w W' := by
  obtain ⟨b0, q0, t0, e0, ob, ol, oP, hR⟩ := hR
  cases e0
  obtain rfl : q0 = none := hR
  have K : Below w.heap.size w w := bw_refl _
  obtain ⟨o0, o1, _, _⟩ := lies2 (ob.below K)
  go_enter Tryd.func69, Tryd.ntmps69
  go_wp2_with fail
  refine wp_loop_rounds 1 ?_
  rw [rounds_succ]
  go_wp2_with fail
  go_ret
  exact ⟨rfl, bw_refl _⟩
set_option maxRecDepth 100000 in
set_option maxHeartbeats 4000000 in
theorem holesFree_1 (b : Nat) (o h : RingT) (w : World) (hR : RingL w.heap.size w (some ⟨b, 0, none⟩) [o, h]) (oko : okV o.pts = true) (okh : okV h.pts = true) :
    Calls Tryd.prog 69 #[.pointer (some ⟨b, 0, none⟩)] w fun e W' => e = .returned (.bool (arB o.pts h.pts)) ∧ Below w.heap.size w W' := by
  obtain ⟨b0, q0, t0, e0, ob, ol, oP, hR⟩ := hR
  cases e0
  obtain ⟨b1, q1, t1, rfl, hb, hl, hP, hR⟩ := hR
  obtain rfl : q1 = none := hR
  have K : Below w.heap.size w w := bw_refl _
  obtain ⟨o0, o1, _, _⟩ := lies2 (ob.below K)
  obtain ⟨h0, h1, _, _⟩ := lies2 (hb.below K)
  cases har : arB o.pts h.pts
  · go_enter Tryd.func69, Tryd.ntmps69
    go_wp2_with fail
    refine wp_loop_rounds 2 ?_
    rw [rounds_succ]
    have hcall := around_any b b1 o.a h.a o.len o.cap h.len h.cap o.pts h.pts ol hl oko okh w o0 h0 ((oP.below K).grow K.size) ((hP.below K).grow K.size)
    rw [har] at hcall
    go_wp2_with (go_at_call 92; refine hcall.mono ?_; clear hcall; rintro e v1 ⟨rfl, J⟩; replace K := bw_trans K J; clear J o0 o1 h0 h1; obtain ⟨o0, o1, _, _⟩ := lies2 (ob.below K); obtain ⟨h0, h1, _, _⟩ := lies2 (hb.below K))
    go_ret
    exact ⟨rfl, K⟩
  · go_enter Tryd.func69, Tryd.ntmps69
    go_wp2_with fail
    refine wp_loop_rounds 2 ?_
    rw [rounds_succ]
    have hcall := around_any b b1 o.a h.a o.len o.cap h.len h.cap o.pts h.pts ol hl oko okh w o0 h0 ((oP.below K).grow K.size) ((hP.below K).grow K.size)
    rw [har] at hcall
    go_wp2_with (go_at_call 92; refine hcall.mono ?_; clear hcall; rintro e v1 ⟨rfl, J⟩; replace K := bw_trans K J; clear J o0 o1 h0 h1; obtain ⟨o0, o1, _, _⟩ := lies2 (ob.below K); obtain ⟨h0, h1, _, _⟩ := lies2 (hb.below K))
    refine wp_loop_rounds 1 ?_
    rw [rounds_succ]
    go_wp2_with fail
    rw [rounds_succ]
    go_wp2_with fail
    go_ret
    exact ⟨rfl, K⟩
set_option maxRecDepth 100000 in
set_option maxHeartbeats 4000000 in
theorem holesFree_2 (b : Nat) (o h k : RingT) (w : World) (hR : RingL w.heap.size w (some ⟨b, 0, none⟩) [o, h, k]) (oko : okV o.pts = true) (okh : okV h.pts = true) (okk : okV k.pts = true) :
    Calls Tryd.prog 69 #[.pointer (some ⟨b, 0, none⟩)] w fun e W' => e = .returned (.bool (arB o.pts h.pts && beB h.pts k.pts && arB o.pts k.pts)) ∧ Below w.heap.size w W' := by
  obtain ⟨b0, q0, t0, e0, ob, ol, oP, hR⟩ := hR
  cases e0
  obtain ⟨b1, q1, t1, rfl, hb, hl, hP, hR⟩ := hR
  obtain ⟨b2, q2, t2, rfl, kb, kl, kP, hR⟩ := hR
  obtain rfl : q2 = none := hR
  have K : Below w.heap.size w w := bw_refl _
  obtain ⟨o0, o1, _, _⟩ := lies2 (ob.below K)
  obtain ⟨h0, h1, _, _⟩ := lies2 (hb.below K)
  obtain ⟨k0, k1, _, _⟩ := lies2 (kb.below K)
  cases har : arB o.pts h.pts
  · go_enter Tryd.func69, Tryd.ntmps69
    go_wp2_with fail
    refine wp_loop_rounds 3 ?_
    rw [rounds_succ]
    have hcall := around_any b b1 o.a h.a o.len o.cap h.len h.cap o.pts h.pts ol hl oko okh w o0 h0 ((oP.below K).grow K.size) ((hP.below K).grow K.size)
    rw [har] at hcall
    go_wp2_with (go_at_call 92; refine hcall.mono ?_; clear hcall; rintro e v1 ⟨rfl, J⟩; replace K := bw_trans K J; clear J o0 o1 h0 h1 k0 k1; obtain ⟨o0, o1, _, _⟩ := lies2 (ob.below K); obtain ⟨h0, h1, _, _⟩ := lies2 (hb.below K); obtain ⟨k0, k1, _, _⟩ := lies2 (kb.below K))
    go_ret
    exact ⟨rfl, K⟩
  cases hbe : beB h.pts k.pts
  · go_enter Tryd.func69, Tryd.ntmps69
    go_wp2_with fail
    refine wp_loop_rounds 3 ?_
    rw [rounds_succ]
    have hcall := around_any b b1 o.a h.a o.len o.cap h.len h.cap o.pts h.pts ol hl oko okh w o0 h0 ((oP.below K).grow K.size) ((hP.below K).grow K.size)
    rw [har] at hcall
    go_wp2_with (go_at_call 92; refine hcall.mono ?_; clear hcall; rintro e v1 ⟨rfl, J⟩; replace K := bw_trans K J; clear J o0 o1 h0 h1 k0 k1; obtain ⟨o0, o1, _, _⟩ := lies2 (ob.below K); obtain ⟨h0, h1, _, _⟩ := lies2 (hb.below K); obtain ⟨k0, k1, _, _⟩ := lies2 (kb.below K))
    refine wp_loop_rounds 2 ?_
    rw [rounds_succ]
    have hcall := beside_any b1 b2 h.a k.a h.len h.cap k.len k.cap h.pts k.pts hl kl okh okk v1 h0 k0 ((hP.below K).grow K.size) ((kP.below K).grow K.size)
    rw [hbe] at hcall
    go_wp2_with (go_at_call 93; refine hcall.mono ?_; clear hcall; rintro e v2 ⟨rfl, J⟩; replace K := bw_trans K J; clear J o0 o1 h0 h1 k0 k1; obtain ⟨o0, o1, _, _⟩ := lies2 (ob.below K); obtain ⟨h0, h1, _, _⟩ := lies2 (hb.below K); obtain ⟨k0, k1, _, _⟩ := lies2 (kb.below K))
    go_ret
    exact ⟨rfl, K⟩
  cases hak : arB o.pts k.pts
  · go_enter Tryd.func69, Tryd.ntmps69
    go_wp2_with fail
    refine wp_loop_rounds 3 ?_
    rw [rounds_succ]
    have hcall := around_any b b1 o.a h.a o.len o.cap h.len h.cap o.pts h.pts ol hl oko okh w o0 h0 ((oP.below K).grow K.size) ((hP.below K).grow K.size)
    rw [har] at hcall
    go_wp2_with (go_at_call 92; refine hcall.mono ?_; clear hcall; rintro e v1 ⟨rfl, J⟩; replace K := bw_trans K J; clear J o0 o1 h0 h1 k0 k1; obtain ⟨o0, o1, _, _⟩ := lies2 (ob.below K); obtain ⟨h0, h1, _, _⟩ := lies2 (hb.below K); obtain ⟨k0, k1, _, _⟩ := lies2 (kb.below K))
    refine wp_loop_rounds 2 ?_
    rw [rounds_succ]
    have hcall := beside_any b1 b2 h.a k.a h.len h.cap k.len k.cap h.pts k.pts hl kl okh okk v1 h0 k0 ((hP.below K).grow K.size) ((kP.below K).grow K.size)
    rw [hbe] at hcall
    go_wp2_with (go_at_call 93; refine hcall.mono ?_; clear hcall; rintro e v2 ⟨rfl, J⟩; replace K := bw_trans K J; clear J o0 o1 h0 h1 k0 k1; obtain ⟨o0, o1, _, _⟩ := lies2 (ob.below K); obtain ⟨h0, h1, _, _⟩ := lies2 (hb.below K); obtain ⟨k0, k1, _, _⟩ := lies2 (kb.below K))
    rw [rounds_succ]
    go_wp2_with fail
    rw [rounds_succ]
    have hcall := around_any b b2 o.a k.a o.len o.cap k.len k.cap o.pts k.pts ol kl oko okk v2 o0 k0 ((oP.below K).grow K.size) ((kP.below K).grow K.size)
    rw [hak] at hcall
    go_wp2_with (go_at_call 92; refine hcall.mono ?_; clear hcall; rintro e v3 ⟨rfl, J⟩; replace K := bw_trans K J; clear J o0 o1 h0 h1 k0 k1; obtain ⟨o0, o1, _, _⟩ := lies2 (ob.below K); obtain ⟨h0, h1, _, _⟩ := lies2 (hb.below K); obtain ⟨k0, k1, _, _⟩ := lies2 (kb.below K))
    go_ret
    exact ⟨rfl, K⟩
  · go_enter Tryd.func69, Tryd.ntmps69
    go_wp2_with fail
    refine wp_loop_rounds 3 ?_
    rw [rounds_succ]
    have hcall := around_any b b1 o.a h.a o.len o.cap h.len h.cap o.pts h.pts ol hl oko okh w o0 h0 ((oP.below K).grow K.size) ((hP.below K).grow K.size)
    rw [har] at hcall
    go_wp2_with (go_at_call 92; refine hcall.mono ?_; clear hcall; rintro e v1 ⟨rfl, J⟩; replace K := bw_trans K J; clear J o0 o1 h0 h1 k0 k1; obtain ⟨o0, o1, _, _⟩ := lies2 (ob.below K); obtain ⟨h0, h1, _, _⟩ := lies2 (hb.below K); obtain ⟨k0, k1, _, _⟩ := lies2 (kb.below K))
    refine wp_loop_rounds 2 ?_
    rw [rounds_succ]
    have hcall := beside_any b1 b2 h.a k.a h.len h.cap k.len k.cap h.pts k.pts hl kl okh okk v1 h0 k0 ((hP.below K).grow K.size) ((kP.below K).grow K.size)
    rw [hbe] at hcall
    go_wp2_with (go_at_call 93; refine hcall.mono ?_; clear hcall; rintro e v2 ⟨rfl, J⟩; replace K := bw_trans K J; clear J o0 o1 h0 h1 k0 k1; obtain ⟨o0, o1, _, _⟩ := lies2 (ob.below K); obtain ⟨h0, h1, _, _⟩ := lies2 (hb.below K); obtain ⟨k0, k1, _, _⟩ := lies2 (kb.below K))
    rw [rounds_succ]
    go_wp2_with fail
    rw [rounds_succ]
    have hcall := around_any b b2 o.a k.a o.len o.cap k.len k.cap o.pts k.pts ol kl oko okk v2 o0 k0 ((oP.below K).grow K.size) ((kP.below K).grow K.size)
    rw [hak] at hcall
    go_wp2_with (go_at_call 92; refine hcall.mono ?_; clear hcall; rintro e v3 ⟨rfl, J⟩; replace K := bw_trans K J; clear J o0 o1 h0 h1 k0 k1; obtain ⟨o0, o1, _, _⟩ := lies2 (ob.below K); obtain ⟨h0, h1, _, _⟩ := lies2 (hb.below K); obtain ⟨k0, k1, _, _⟩ := lies2 (kb.below K))
    refine wp_loop_rounds 1 ?_
    rw [rounds_succ]
    go_wp2_with fail
    rw [rounds_succ]
    go_wp2_with fail
    go_ret
    exact ⟨rfl, K⟩
end Go.Proofs.YtfnhbdanfnpdeaaDoor
