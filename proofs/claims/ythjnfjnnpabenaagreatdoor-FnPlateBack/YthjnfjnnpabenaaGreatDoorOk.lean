/-
  OUR OWN TEXT. LoopOk, by contract, at every points.
-/
import Derived.Test.YthjnfjnnpabenaaGreatDoorFree2
namespace Go.Proofs.YthjnfjnnpabenaaGreatDoor
open Go.RowKit Go.Shelf Go.Sort
attribute [local go_sem] Oper.semAt_some

theorem okV_all {pts : List P2} (h3 : 3 ≤ pts.length) (h8 : pts.length ≤ 8) (h : ∀ k ∈ List.finRange pts.length, (sgE pts k.1 && freeV pts k.1) = true) : okV pts = true := by
  unfold okV; rw [Bool.and_eq_true, decide_eq_true_eq, List.all_eq_true]
  exact ⟨⟨h3, h8⟩, fun i hi => h ⟨i, List.mem_range.1 hi⟩ (List.mem_finRange _)⟩
theorem okV_not {pts : List P2} {i : Nat} (hi : i < pts.length) (h : (sgE pts i && freeV pts i) = false) : okV pts = false := by
  unfold okV; rw [Bool.and_eq_false_iff]; right; rw [List.all_eq_false]; exact ⟨i, List.mem_range.2 hi, by rw [h]; simp⟩
theorem okV_len {pts : List P2} (h : ¬ (3 ≤ pts.length ∧ pts.length ≤ 8)) : okV pts = false := by
  unfold okV; rw [decide_eq_false h]; rfl
set_option maxRecDepth 100000 in
set_option maxHeartbeats 4000000 in
theorem ok_in (n : Nat) (hn : 8 ≤ n) (a : Option Addr) (len cap : Nat) (pts : List P2) (hlen : len ≤ 1048576) (w : World) (hP : Pts w.heap.size w a len pts) :
    CallsIn Fence.wide n Tryz.prog 36 #[.slice a len cap] w fun e W' => e = .returned (.bool (okV pts)) ∧ Below w.heap.size w W' := by
  have h1 : 1 ≤ n := by omega
  have hl := hP.1
  have hmx : Tryz.prog.follows .mixedOrders = true := by kernel_rfl
  by_cases h3 : len < 3
  · have e1 : Hid (okV pts = false) := okV_len (by omega)
    refine callsIn_wide.2 ?_
    clear hP hl
    go_enter Tryz.func36, Tryz.ntmps36
    go_wp2
    exact bodyPost_ret (v := .bool false) (by simp [results, Tryz.f36, go_sem]) rfl ⟨ret_bool e1.out.symm, (by repeat (first | exact bw_refl _ | assumption | apply bw_drewN | apply bw_drew | apply bw_alloc | refine bw_set ?_ (by simp) _))⟩
  by_cases h8 : 8 < len
  · have e1 : Hid (okV pts = false) := okV_len (by omega)
    refine callsIn_wide.2 ?_
    clear hP hl
    go_enter Tryz.func36, Tryz.ntmps36
    go_wp2
    exact bodyPost_ret (v := .bool false) (by simp [results, Tryz.f36, go_sem]) rfl ⟨ret_bool e1.out.symm, (by repeat (first | exact bw_refl _ | assumption | apply bw_drewN | apply bw_drew | apply bw_alloc | refine bw_set ?_ (by simp) _))⟩
  refine callsIn_of_wp_marks Tryz.func36 rfl trivial ?_ rfl
  simp only [Tryz.ntmps36, List.size_toArray, List.length_cons, List.length_nil, Nat.reduceAdd, Nat.reduceSub, Array.replicate_succ, Array.replicate_zero, List.push_toArray, List.append_toArray, List.nil_append, List.cons_append]
  gi_wp2_with (refine ⟨trivial, ?_⟩; gi_at_call 57; refine (edges_in (n - 1) _ _ _ _).mono ?_; rintro e w' ⟨rfl, rfl⟩)
  have L0 := ((Lies.new' w (w.heap.size) (by simp) #[.slice a len cap] 22).alloc (.cells #[.bool false] 4)).alloc (.cells #[.slice a len cap] 22)
  have L1 := (Lies.new' (w.alloc (.cells #[.slice a len cap] 22)) (w.heap.size + 1) (by simp) #[.bool false] 4).alloc (.cells #[.slice a len cap] 22)
  have L2 := Lies.new' ((w.alloc (.cells #[.slice a len cap] 22)).alloc (.cells #[.bool false] 4)) (w.heap.size + 1 + 1) (by simp) #[.slice a len cap] 22
  have hB0 : Below w.heap.size w (((w.alloc (.cells #[.slice a len cap] 22)).alloc (.cells #[.bool false] 4)).alloc (.cells #[.slice a len cap] 22)) := (by repeat (first | exact bw_refl _ | assumption | apply bw_drewN | apply bw_drew | apply bw_alloc | refine bw_set ?_ (by simp) _))
  have hsz : ((((w.alloc (.cells #[.slice a len cap] 22)).alloc (.cells #[.bool false] 4)).alloc (.cells #[.slice a len cap] 22))).heap.size = w.heap.size + 3 := by simp
  obtain ⟨W0, hW0⟩ : ∃ W0, (((w.alloc (.cells #[.slice a len cap] 22)).alloc (.cells #[.bool false] 4)).alloc (.cells #[.slice a len cap] 22)) = W0 := ⟨_, rfl⟩
  rw [hW0] at L0 L1 L2 hB0 hsz ⊢
  clear hW0
  have hst := edges_stops (n - 1) (by omega) (w.heap.size + 1 + 1) w.heap.size a len cap pts W0 (by omega) (by omega) hlen L2.c1 (hP.below hB0)
  refine wpIn_rangeFunc_ownH rfl h1 (gf := 76) (lb := #[.pointer (some ⟨w.heap.size + 1 + 1, 0, none⟩)]) rfl trivial (enters_of Tryz.func76 (by kernel_rfl) rfl)
    hst KB_t (KB_b (by omega) (by omega)) (Below.refl _ _) (fun _ => rfl)
    (fun pre W => ((∀ k ∈ pre, (sgE pts k.1 && freeV pts k.1) = true) ∧ Lies (w.heap.size) #[.slice a len cap] 22 W ∧ Lies (w.heap.size + 1) #[.bool false] 4 W ∧ Lies (w.heap.size + 1 + 1) #[.slice a len cap] 22 W) ∧ Below w.heap.size w W)
    (fun c pre W => ((c = .ret ∧ ∃ k ∈ pre, (sgE pts k.1 && freeV pts k.1) = false) ∧ Lies (w.heap.size + 1) #[.bool false] 4 W) ∧ Below w.heap.size w W)
    (OwnFrom.and (OwnFrom.and (ownFrom_pure _ _) (OwnFrom.and (lies_from _ _ _ _) (OwnFrom.and (lies_from _ _ _ _) (lies_from _ _ _ _)))) (ownFrom_below (Nat.le_refl _) (by omega)))
    (fun c => OwnFrom.and (OwnFrom.and (ownFrom_pure _ _) (lies_from _ _ _ _)) (ownFrom_below (Nat.le_refl _) (by omega)))
    ⟨⟨by simp, L0, L1, L2⟩, hB0⟩
    (fun x a' W => ∃ Bx, w.heap.size + 1 + 1 < Bx ∧ Lies Bx #[.int .i64 (ptAt pts x.1).1, .int .i64 (ptAt pts x.1).2, .int .i64 (ptAt pts (nxt pts x.1)).1, .int .i64 (ptAt pts (nxt pts x.1)).2] 93 W ∧ a' = { tmps := #[.slice a len cap, .pointer (some ⟨w.heap.size, 0, none⟩), .pointer (some ⟨w.heap.size + 1, 0, none⟩), .int .i64 (x.1 : Int), .pointer (some ⟨Bx, 0, none⟩), .slice a len cap, .int .i64 (len : Int), .bool (decide ((len : Int) < 3)), .bool (decide ((len : Int) < 3)), .slice a len cap, .int .i64 (len : Int), .bool (decide (8 < (len : Int))), .bool (decide ((len : Int) < 3) || decide (8 < (len : Int))), .slice a len cap, .func (.func 76) #[] #[.pointer (some ⟨w.heap.size + 1 + 1, 0, none⟩)], .int .i64 (x.1 : Int), .agg #[.int .i64 (ptAt pts x.1).1, .int .i64 (ptAt pts x.1).2, .int .i64 (ptAt pts (nxt pts x.1)).1, .int .i64 (ptAt pts (nxt pts x.1)).2], undef, undef, undef, undef, undef, undef, undef, undef, undef, undef], defers := [] })
    (fun x a' _ X Y row hs hg hr => by obtain ⟨Bx, e1, e2, e3⟩ := hs; exact ⟨Bx, e1, lies_own (β := Unit) Bx _ _ () X Y row e2 hg (fun r e => (hr r e).2), e3⟩)
    ?assign ?body ?done ?stop
  case assign =>
    rintro l pre x W K ⟨⟨hp, M0, M1, M2⟩, hB1⟩ hK
    unfold encE
    gi_wp2
    exact hK _ _ ((KeepsOthers.alloc _ _).from _) ((KB.refl _ _ W).alloc hB1.size M2.lt _) ⟨⟨hp, M0.alloc _, M1.alloc _, M2.alloc _⟩, hB1.alloc hB1.size _⟩ ⟨W.heap.size, M2.lt, Lies.new W _ _, rfl⟩
  case body =>
    rintro l pre x a' W hl2 ⟨r, hr⟩ ⟨⟨hp, M0, M1, M2⟩, hB1⟩ ⟨Bx, hBx, bX, rfl⟩ hlt
    obtain ⟨k, hk⟩ := x
    dsimp only at *
    have c0 := M0.c1
    have c1 := M1.c1
    have f1 := M1.f1
    obtain ⟨cx0, cx1, cx2, cx3⟩ := bX.c4
    have h1' : 1 ≤ n - 1 - 1 := by omega
    cases hs : sgE pts k
    · have fr : Hid ((sgE pts k && freeV pts k) = false) := by change _ = _; rw [hs]; rfl
      have hs' := hs
      unfold sgE at hs'
      gi_wp2_with (refine ⟨trivial, ?_⟩; gi_at_call 58; refine (CallsIn.inRound l (callsIn_wide.2 (segOk_raw _ _ _))).mono ?_; rw [hs']; rintro e w2 ⟨rfl, J⟩; have c1' := (M1.below J).c1; have f1' := (M1.below J).f1)
      refine ⟨trivial, ?_⟩
      gi_wp2
      exact ⟨((KeepsOthers.of_below J).trans (KeepsOthers.setCell _ _ _)).from _, ⟨⟨rfl, ⟨k, hk⟩, List.mem_append.2 (.inr (by simp)), fr.out⟩, (M1.below J).set1 _⟩, bw_set (bw_trans hB1 J) (by simp) _⟩
    · have hs' := hs
      unfold sgE at hs'
      cases hf : freeV pts k
      · have fr : Hid ((sgE pts k && freeV pts k) = false) := by change _ = _; rw [hs, hf]; rfl
        gi_wp2_with (refine ⟨trivial, ?_⟩; gi_at_call 58; refine (CallsIn.inRound l (callsIn_wide.2 (segOk_raw _ _ _))).mono ?_; rw [hs']; rintro e w2 ⟨rfl, J⟩; have c0' := (M0.below J).c1; obtain ⟨cx0', cx1', cx2', cx3'⟩ := (bX.below J).c4)
        refine ⟨trivial, ?_⟩
        gi_at_call 59
        refine (CallsIn.inRound l (free_in (n - 1 - 1 - 1) (by omega) a len cap pts k (by omega) hlen w2 ((hP.below (bw_trans hB1 J)).grow (bw_trans hB1 J).size))).mono ?_
        rw [hf]
        rintro e w3 ⟨rfl, J3⟩
        have c1' := ((M1.below J).below J3).c1
        have f1' := ((M1.below J).below J3).f1
        gi_wp2
        exact ⟨(((KeepsOthers.of_below J).trans (KeepsOthers.of_below J3)).trans (KeepsOthers.setCell _ _ _)).from _, ⟨⟨rfl, ⟨k, hk⟩, List.mem_append.2 (.inr (by simp)), fr.out⟩, ((M1.below J).below J3).set1 _⟩, bw_set (bw_trans (bw_trans hB1 J) J3) (by simp) _⟩
      · have fr : Hid ((sgE pts k && freeV pts k) = true) := by change _ = _; rw [hs, hf]; rfl
        gi_wp2_with (refine ⟨trivial, ?_⟩; gi_at_call 58; refine (CallsIn.inRound l (callsIn_wide.2 (segOk_raw _ _ _))).mono ?_; rw [hs']; rintro e w2 ⟨rfl, J⟩; have c0' := (M0.below J).c1; obtain ⟨cx0', cx1', cx2', cx3'⟩ := (bX.below J).c4)
        refine ⟨trivial, ?_⟩
        gi_at_call 59
        refine (CallsIn.inRound l (free_in (n - 1 - 1 - 1) (by omega) a len cap pts k (by omega) hlen w2 ((hP.below (bw_trans hB1 J)).grow (bw_trans hB1 J).size))).mono ?_
        rw [hf]
        rintro e w3 ⟨rfl, J3⟩
        have JJ := bw_trans J J3
        gi_wp2
        exact ⟨(KeepsOthers.of_below JJ).from _, KB.of_below JJ hB1.size M2.lt, ⟨fun q hq => (List.mem_append.1 hq).elim (hp q) (fun e => by simp at e; rw [e]; exact fr.out), M0.below JJ, M1.below JJ, M2.below JJ⟩, bw_trans hB1 JJ⟩
  case done =>
    rintro D zs W hD rfl ⟨⟨hp, M0, M1, M2⟩, hB1⟩ hK
    have cR := M1.c1
    have fR := M1.f1
    gi_wp2
    have hK' := (KeepsOthers.setCell W ⟨w.heap.size + 1, 0, none⟩ (.bool true)).same D _ hK rfl
    refine ⟨by simp, .inl ⟨_, _, rfl, run_takeDeferred hK', ?_⟩⟩
    have hc5 := ((M1.set1 (.bool true)).put (.deferred none) hK' rfl).c1
    refine ⟨.bool true, ?_, ?_, (hB1.setCell (p := ⟨w.heap.size + 1, 0, none⟩) (by simp) _).trans (belowK_b (w := w) (Nat.le_refl _) _ D _ _ (by omega) hK' rfl rfl)⟩
    · simp [results, Tryz.f36, go_sem, hc5]
    · rw [okV_all (by omega) (by omega) hp]
  case stop =>
    rintro D c pre W hD hpre ⟨⟨⟨rfl, x, hx, hy⟩, M1⟩, hB1⟩ hK
    gi_wp2
    refine ⟨by simp, .inl ⟨_, _, rfl, run_takeDeferred hK, ?_⟩⟩
    have hc5 := (M1.put (.deferred none) hK rfl).c1
    refine ⟨.bool false, ?_, ?_, hB1.trans (belowK_b (w := w) (Nat.le_refl _) _ D _ _ (by omega) hK rfl rfl)⟩
    · simp [results, Tryz.f36, go_sem, hc5]
    · rw [okV_not x.2 hy]
/-- LoopOk. -/
theorem ok_any (a : Option Addr) (len cap : Nat) (pts : List P2) (hlen : len ≤ 1048576) (w : World) (hP : Pts w.heap.size w a len pts) :
    Calls Tryz.prog 36 #[.slice a len cap] w fun e W' => e = .returned (.bool (okV pts)) ∧ Below w.heap.size w W' :=
  callsIn_wide.1 (ok_in 8 (Nat.le_refl _) a len cap pts hlen w hP)
end Go.Proofs.YthjnfjnnpabenaaGreatDoor
