/-
  OUR OWN TEXT. An edge that is free of all others, by contract, at every points.
-/
import Derived.Test.YthjnfjnnpabenaaGreatDoorFree
import Derived.Test.YthjnfjnnpabenaaGreatDoorRoundQ
namespace Go.Proofs.YthjnfjnnpabenaaGreatDoor
open Go.RowKit Go.Shelf Go.Sort
attribute [local go_sem] Oper.semAt_some

theorem freeV_all {pts : List P2} {place : Nat} (h : ∀ k ∈ List.finRange pts.length, freeE pts place k.1 = true) : freeV pts place = true := by
  unfold freeV; rw [List.all_eq_true]; intro i hi
  exact h ⟨i, List.mem_range.1 hi⟩ (List.mem_finRange _)
theorem freeV_not {pts : List P2} {place i : Nat} (hi : i < pts.length) (h : freeE pts place i = false) : freeV pts place = false := by
  unfold freeV; rw [List.all_eq_false]; exact ⟨i, List.mem_range.2 hi, by rw [h]; simp⟩
set_option maxRecDepth 100000 in
set_option maxHeartbeats 4000000 in
theorem free_in (n : Nat) (hn : 4 ≤ n) (a : Option Addr) (len cap : Nat) (pts : List P2) (place : Nat) (hpl : place < len) (hlen : len ≤ 1048576) (w : World) (hP : Pts w.heap.size w a len pts) :
    CallsIn Fence.wide n Tryz.prog 59 #[.slice a len cap, .int .i64 (place : Int), sgv (ptAt pts place) (ptAt pts (nxt pts place))] w fun e W' => e = .returned (.bool (freeV pts place)) ∧ Below w.heap.size w W' := by
  have h1 : 1 ≤ n := by omega
  have hl := hP.1
  have hmx : Tryz.prog.follows .mixedOrders = true := by kernel_rfl
  have hz : (len = 0) = False := by simp; omega
  have hq : IntKind.i64.wrap ((place : Int) + 1) = (place : Int) + 1 := wrap_small (by omega) (by omega)
  have hq1 : ((place : Int) + 1).tmod (len : Int) = (nxt pts place : Int) := by
    rw [Int.tmod_eq_emod_of_nonneg (by omega)]; unfold nxt; rw [hl]; simp
  unfold sgv
  refine callsIn_of_wp_marks Tryz.func59 rfl trivial ?_ rfl
  simp only [Tryz.ntmps59, List.size_toArray, List.length_cons, List.length_nil, Nat.reduceAdd, Nat.reduceSub, Array.replicate_succ, Array.replicate_zero, List.push_toArray, List.append_toArray, List.nil_append, List.cons_append]
  gi_wp2_with (refine ⟨trivial, ?_⟩; gi_at_call 57; refine (edges_in (n - 1) _ _ _ _).mono ?_; rintro e w' ⟨rfl, rfl⟩)
  have L0 := (((((Lies.new w #[.slice a len cap] 22).alloc (.cells #[.int .i64 (place : Int)] 3)).alloc (.cells #[.int .i64 (ptAt pts place).1, .int .i64 (ptAt pts place).2, .int .i64 (ptAt pts (nxt pts place)).1, .int .i64 (ptAt pts (nxt pts place)).2] 93)).alloc (.cells #[.bool false] 4)).alloc (.cells #[.int .i64 (nxt pts place : Int)] 3)).alloc (.cells #[.slice a len cap] 22)
  have L1 := ((((Lies.new' (w.alloc (.cells #[.slice a len cap] 22)) (w.heap.size + 1) (by simp) #[.int .i64 (place : Int)] 3).alloc (.cells #[.int .i64 (ptAt pts place).1, .int .i64 (ptAt pts place).2, .int .i64 (ptAt pts (nxt pts place)).1, .int .i64 (ptAt pts (nxt pts place)).2] 93)).alloc (.cells #[.bool false] 4)).alloc (.cells #[.int .i64 (nxt pts place : Int)] 3)).alloc (.cells #[.slice a len cap] 22)
  have L2 := (((Lies.new' ((w.alloc (.cells #[.slice a len cap] 22)).alloc (.cells #[.int .i64 (place : Int)] 3)) (w.heap.size + 1 + 1) (by simp) #[.int .i64 (ptAt pts place).1, .int .i64 (ptAt pts place).2, .int .i64 (ptAt pts (nxt pts place)).1, .int .i64 (ptAt pts (nxt pts place)).2] 93).alloc (.cells #[.bool false] 4)).alloc (.cells #[.int .i64 (nxt pts place : Int)] 3)).alloc (.cells #[.slice a len cap] 22)
  have L3 := ((Lies.new' (((w.alloc (.cells #[.slice a len cap] 22)).alloc (.cells #[.int .i64 (place : Int)] 3)).alloc (.cells #[.int .i64 (ptAt pts place).1, .int .i64 (ptAt pts place).2, .int .i64 (ptAt pts (nxt pts place)).1, .int .i64 (ptAt pts (nxt pts place)).2] 93)) (w.heap.size + 1 + 1 + 1) (by simp) #[.bool false] 4).alloc (.cells #[.int .i64 (nxt pts place : Int)] 3)).alloc (.cells #[.slice a len cap] 22)
  have L4 := (Lies.new' ((((w.alloc (.cells #[.slice a len cap] 22)).alloc (.cells #[.int .i64 (place : Int)] 3)).alloc (.cells #[.int .i64 (ptAt pts place).1, .int .i64 (ptAt pts place).2, .int .i64 (ptAt pts (nxt pts place)).1, .int .i64 (ptAt pts (nxt pts place)).2] 93)).alloc (.cells #[.bool false] 4)) (w.heap.size + 1 + 1 + 1 + 1) (by simp) #[.int .i64 (nxt pts place : Int)] 3).alloc (.cells #[.slice a len cap] 22)
  have L5 := Lies.new' (((((w.alloc (.cells #[.slice a len cap] 22)).alloc (.cells #[.int .i64 (place : Int)] 3)).alloc (.cells #[.int .i64 (ptAt pts place).1, .int .i64 (ptAt pts place).2, .int .i64 (ptAt pts (nxt pts place)).1, .int .i64 (ptAt pts (nxt pts place)).2] 93)).alloc (.cells #[.bool false] 4)).alloc (.cells #[.int .i64 (nxt pts place : Int)] 3)) (w.heap.size + 1 + 1 + 1 + 1 + 1) (by simp) #[.slice a len cap] 22
  have hB0 : Below w.heap.size w ((((((w.alloc (.cells #[.slice a len cap] 22)).alloc (.cells #[.int .i64 (place : Int)] 3)).alloc (.cells #[.int .i64 (ptAt pts place).1, .int .i64 (ptAt pts place).2, .int .i64 (ptAt pts (nxt pts place)).1, .int .i64 (ptAt pts (nxt pts place)).2] 93)).alloc (.cells #[.bool false] 4)).alloc (.cells #[.int .i64 (nxt pts place : Int)] 3)).alloc (.cells #[.slice a len cap] 22)) := (by repeat (first | exact bw_refl _ | assumption | apply bw_drewN | apply bw_drew | apply bw_alloc | refine bw_set ?_ (by simp) _))
  have hsz : ((((((w.alloc (.cells #[.slice a len cap] 22)).alloc (.cells #[.int .i64 (place : Int)] 3)).alloc (.cells #[.int .i64 (ptAt pts place).1, .int .i64 (ptAt pts place).2, .int .i64 (ptAt pts (nxt pts place)).1, .int .i64 (ptAt pts (nxt pts place)).2] 93)).alloc (.cells #[.bool false] 4)).alloc (.cells #[.int .i64 (nxt pts place : Int)] 3)).alloc (.cells #[.slice a len cap] 22)).heap.size = w.heap.size + 6 := by simp
  obtain ⟨W0, hW0⟩ : ∃ W0, ((((((w.alloc (.cells #[.slice a len cap] 22)).alloc (.cells #[.int .i64 (place : Int)] 3)).alloc (.cells #[.int .i64 (ptAt pts place).1, .int .i64 (ptAt pts place).2, .int .i64 (ptAt pts (nxt pts place)).1, .int .i64 (ptAt pts (nxt pts place)).2] 93)).alloc (.cells #[.bool false] 4)).alloc (.cells #[.int .i64 (nxt pts place : Int)] 3)).alloc (.cells #[.slice a len cap] 22)) = W0 := ⟨_, rfl⟩
  rw [hW0] at L0 L1 L2 L3 L4 L5 hB0 hsz ⊢
  clear hW0
  have hst := edges_stops (n - 1) (by omega) (w.heap.size + 1 + 1 + 1 + 1 + 1) w.heap.size a len cap pts W0 (by omega) (by omega) hlen L5.c1 (hP.below hB0)
  refine wpIn_rangeFunc_ownH rfl h1 (gf := 76) (lb := #[.pointer (some ⟨w.heap.size + 1 + 1 + 1 + 1 + 1, 0, none⟩)]) rfl trivial (enters_of Tryz.func76 (by kernel_rfl) rfl)
    hst KB_t (KB_b (by omega) (by omega)) (Below.refl _ _) (fun _ => rfl)
    (fun pre W => ((∀ k ∈ pre, freeE pts place k.1 = true) ∧ Lies w.heap.size #[.slice a len cap] 22 W ∧ Lies (w.heap.size + 1) #[.int .i64 (place : Int)] 3 W ∧ Lies (w.heap.size + 1 + 1) #[.int .i64 (ptAt pts place).1, .int .i64 (ptAt pts place).2, .int .i64 (ptAt pts (nxt pts place)).1, .int .i64 (ptAt pts (nxt pts place)).2] 93 W ∧ Lies (w.heap.size + 1 + 1 + 1) #[.bool false] 4 W ∧ Lies (w.heap.size + 1 + 1 + 1 + 1) #[.int .i64 (nxt pts place : Int)] 3 W ∧ Lies (w.heap.size + 1 + 1 + 1 + 1 + 1) #[.slice a len cap] 22 W) ∧ Below w.heap.size w W)
    (fun c pre W => ((c = .ret ∧ ∃ k ∈ pre, freeE pts place k.1 = false) ∧ Lies (w.heap.size + 1 + 1 + 1) #[.bool false] 4 W) ∧ Below w.heap.size w W)
    (OwnFrom.and (OwnFrom.and (ownFrom_pure _ _) (OwnFrom.and (lies_from _ _ _ _) (OwnFrom.and (lies_from _ _ _ _) (OwnFrom.and (lies_from _ _ _ _) (OwnFrom.and (lies_from _ _ _ _) (OwnFrom.and (lies_from _ _ _ _) (lies_from _ _ _ _))))))) (ownFrom_below (Nat.le_refl _) (by omega)))
    (fun c => OwnFrom.and (OwnFrom.and (ownFrom_pure _ _) (lies_from _ _ _ _)) (ownFrom_below (Nat.le_refl _) (by omega)))
    ⟨⟨by simp, L0, L1, L2, L3, L4, L5⟩, hB0⟩
    (fun x a' W => ∃ Bx, w.heap.size + 1 + 1 + 1 + 1 + 1 < Bx ∧ Lies Bx #[.int .i64 (ptAt pts x.1).1, .int .i64 (ptAt pts x.1).2, .int .i64 (ptAt pts (nxt pts x.1)).1, .int .i64 (ptAt pts (nxt pts x.1)).2] 93 W ∧ a' = { tmps := #[.slice a len cap, .int .i64 (place : Int), .agg #[.int .i64 (ptAt pts place).1, .int .i64 (ptAt pts place).2, .int .i64 (ptAt pts (nxt pts place)).1, .int .i64 (ptAt pts (nxt pts place)).2], .pointer (some ⟨w.heap.size, 0, none⟩), .pointer (some ⟨w.heap.size + 1, 0, none⟩), .pointer (some ⟨w.heap.size + 1 + 1, 0, none⟩), .pointer (some ⟨w.heap.size + 1 + 1 + 1, 0, none⟩), .pointer (some ⟨w.heap.size + 1 + 1 + 1 + 1, 0, none⟩), .int .i64 (x.1 : Int), .pointer (some ⟨Bx, 0, none⟩), .int .i64 (place : Int), .int .i64 ((place : Int) + 1), .slice a len cap, .int .i64 (len : Int), .int .i64 (nxt pts place : Int), .slice a len cap, .func (.func 76) #[] #[.pointer (some ⟨w.heap.size + 1 + 1 + 1 + 1 + 1, 0, none⟩)], .int .i64 (x.1 : Int), .agg #[.int .i64 (ptAt pts x.1).1, .int .i64 (ptAt pts x.1).2, .int .i64 (ptAt pts (nxt pts x.1)).1, .int .i64 (ptAt pts (nxt pts x.1)).2], undef, undef, undef, undef, undef, undef, undef, undef, undef, undef, undef, undef, undef, undef, undef, undef, undef, undef, undef, undef, undef, undef, undef, undef], defers := [] })
    (fun x a' _ X Y row hs hg hr => by obtain ⟨Bx, e1, e2, e3⟩ := hs; exact ⟨Bx, e1, lies_own (β := Unit) Bx _ _ () X Y row e2 hg (fun r e => (hr r e).2), e3⟩)
    ?assign ?body ?done ?stop
  case assign =>
    rintro l pre x W K ⟨⟨hp, M0, M1, M2, M3, M4, M5⟩, hB1⟩ hK
    unfold encE
    gi_wp2
    exact hK _ _ ((KeepsOthers.alloc _ _).from _) ((KB.refl _ _ W).alloc hB1.size M5.lt _) ⟨⟨hp, M0.alloc _, M1.alloc _, M2.alloc _, M3.alloc _, M4.alloc _, M5.alloc _⟩, hB1.alloc hB1.size _⟩ ⟨W.heap.size, M5.lt, Lies.new W _ _, rfl⟩
  case body =>
    rintro l pre x a' W hl2 ⟨r, hr⟩ ⟨⟨hp, M0, M1, M2, M3, M4, M5⟩, hB1⟩ ⟨Bx, hBx, bX, rfl⟩ hlt
    obtain ⟨k, hk⟩ := x
    dsimp only at *
    have c0 := M0.c1
    have c1 := M1.c1
    obtain ⟨c20, c21, c22, c23⟩ := M2.c4
    have c3 := M3.c1
    have f3 := M3.f1
    have c4 := M4.c1
    obtain ⟨cx0, cx1, cx2, cx3⟩ := bX.c4
    have h1' : 1 ≤ n - 1 - 1 := by omega
    have k1 : IntKind.i64.wrap ((k : Int) + 1) = (k : Int) + 1 := wrap_small (by omega) (by omega)
    have k2 : ((k : Int) + 1).tmod (len : Int) = (nxt pts k : Int) := by
      rw [Int.tmod_eq_emod_of_nonneg (by omega)]; unfold nxt; rw [hl]; simp
    have g0 := cell_regrown c0
    have g1 := cell_regrown c1
    have g4 := cell_regrown c4
    by_cases e1 : k = place
    · subst e1
      have fr : Hid (freeE pts k k = true) := by change _ = _; unfold freeE; simp
      gi_wp2
      refine wpIn_round_quiet hmx (by kernel_rfl) (by kernel_rfl) ?_
      repeat (first | go_big_quiet_step (fail))
      refine wpQuiet_nil ?_
      intro _ hw'
      obtain ⟨⟨dq, osq⟩, hw''⟩ := hw'
      subst hw''
      have J := below_regrown W dq osq
      generalize grow (redrawn W dq) osq = w1 at J ⊢
      gi_wp2
      exact ⟨(KeepsOthers.of_below J).from _, KB.of_below J hB1.size M5.lt, ⟨fun q hq => (List.mem_append.1 hq).elim (hp q) (fun e => by simp at e; rw [e]; exact fr.out), M0.below J, M1.below J, M2.below J, M3.below J, M4.below J, M5.below J⟩, bw_trans hB1 J⟩
    · have e1f : ((k : Int) == (place : Int)) = false := by rw [beq_eq_false_iff_ne]; omega
      by_cases e2 : nxt pts k = place
      · have fr : Hid (freeE pts place k = true) := by change _ = _; unfold freeE; simp [e2]
        have e2f : ((nxt pts k : Int) == (place : Int)) = true := by rw [e2]; simp
        gi_wp2
        refine wpIn_round_quiet hmx (by kernel_rfl) (by kernel_rfl) ?_
        repeat (first | go_big_quiet_step (fail))
        refine wpQuiet_nil ?_
        intro _ hw'
        obtain ⟨⟨dq, osq⟩, hw''⟩ := hw'
        subst hw''
        have J := below_regrown W dq osq
        generalize grow (redrawn W dq) osq = w1 at J ⊢
        gi_wp2
        exact ⟨(KeepsOthers.of_below J).from _, KB.of_below J hB1.size M5.lt, ⟨fun q hq => (List.mem_append.1 hq).elim (hp q) (fun e => by simp at e; rw [e]; exact fr.out), M0.below J, M1.below J, M2.below J, M3.below J, M4.below J, M5.below J⟩, bw_trans hB1 J⟩
      · have e2f : ((nxt pts k : Int) == (place : Int)) = false := by rw [beq_eq_false_iff_ne]; omega
        by_cases e3 : k = nxt pts place
        · have e3f : ((k : Int) == (nxt pts place : Int)) = true := by rw [e3]; simp
          have hfr : Hid (freeE pts place k = !backF pts place k) := by change _ = _; unfold freeE; rw [decide_eq_false e1, decide_eq_false e2, if_pos e3]; rfl
          clear e3
          cases hb : backF pts place k
          · have fr : Hid (freeE pts place k = true) := by change _ = _; rw [hfr.out, hb]; rfl
            have hb' := hb
            unfold backF at hb'
            gi_wp2
            refine wpIn_round_quiet hmx (by kernel_rfl) (by kernel_rfl) ?_
            repeat (first | go_big_quiet_step (fail))
            refine wpQuiet_nil ?_
            intro _ hw'
            obtain ⟨⟨dq, osq⟩, hw''⟩ := hw'
            subst hw''
            have J := below_regrown W dq osq
            generalize grow (redrawn W dq) osq = w1 at J ⊢
            have K1 := (KeepsOthers.of_below J).from W0.heap.size
            have K2 := KB.of_below J hB1.size M5.lt
            have hB2 := bw_trans hB1 J
            replace M0 := M0.below J
            replace M1 := M1.below J
            replace M2 := M2.below J
            replace M3 := M3.below J
            replace M4 := M4.below J
            replace M5 := M5.below J
            replace bX := bX.below J
            clear g0 g1 g4 c0 c1 c20 c21 c22 c23 c3 f3 c4 cx0 cx1 cx2 cx3 J
            obtain ⟨c20, c21, c22, c23⟩ := M2.c4
            have c3 := M3.c1
            have f3 := M3.f1
            have c4 := M4.c1
            obtain ⟨cx0, cx1, cx2, cx3⟩ := bX.c4
            gi_wp2_with (refine ⟨trivial, ?_⟩; gi_at_call 78; refine (CallsIn.inRound l (callsIn_wide.2 (back_raw _ _ _ _ _))).mono ?_; rw [hb']; rintro e w2 ⟨rfl, J⟩; have c3' := (M3.below J).c1; have f3' := (M3.below J).f1)
            exact ⟨K1.trans ((KeepsOthers.of_below J).from _), K2.trans (KB.of_below J hB2.size M5.lt), ⟨fun q hq => (List.mem_append.1 hq).elim (hp q) (fun e => by simp at e; rw [e]; exact fr.out), M0.below J, M1.below J, M2.below J, M3.below J, M4.below J, M5.below J⟩, bw_trans hB2 J⟩
          · have fr : Hid (freeE pts place k = false) := by change _ = _; rw [hfr.out, hb]; rfl
            have hb' := hb
            unfold backF at hb'
            gi_wp2
            refine wpIn_round_quiet hmx (by kernel_rfl) (by kernel_rfl) ?_
            repeat (first | go_big_quiet_step (fail))
            refine wpQuiet_nil ?_
            intro _ hw'
            obtain ⟨⟨dq, osq⟩, hw''⟩ := hw'
            subst hw''
            have J := below_regrown W dq osq
            generalize grow (redrawn W dq) osq = w1 at J ⊢
            have K1 := (KeepsOthers.of_below J).from W0.heap.size
            have K2 := KB.of_below J hB1.size M5.lt
            have hB2 := bw_trans hB1 J
            replace M0 := M0.below J
            replace M1 := M1.below J
            replace M2 := M2.below J
            replace M3 := M3.below J
            replace M4 := M4.below J
            replace M5 := M5.below J
            replace bX := bX.below J
            clear g0 g1 g4 c0 c1 c20 c21 c22 c23 c3 f3 c4 cx0 cx1 cx2 cx3 J
            obtain ⟨c20, c21, c22, c23⟩ := M2.c4
            have c3 := M3.c1
            have f3 := M3.f1
            have c4 := M4.c1
            obtain ⟨cx0, cx1, cx2, cx3⟩ := bX.c4
            gi_wp2_with (refine ⟨trivial, ?_⟩; gi_at_call 78; refine (CallsIn.inRound l (callsIn_wide.2 (back_raw _ _ _ _ _))).mono ?_; rw [hb']; rintro e w2 ⟨rfl, J⟩; have c3' := (M3.below J).c1; have f3' := (M3.below J).f1)
            exact ⟨K1.trans (((KeepsOthers.of_below J).trans (KeepsOthers.setCell _ _ _)).from _), ⟨⟨rfl, ⟨k, hk⟩, List.mem_append.2 (.inr (by simp)), fr.out⟩, (M3.below J).set1 _⟩, bw_set (bw_trans hB2 J) (by simp; omega) _⟩
        · have e3f : ((k : Int) == (nxt pts place : Int)) = false := by rw [beq_eq_false_iff_ne]; omega
          have hfr : Hid (freeE pts place k = !meetF pts place k) := by change _ = _; unfold freeE; rw [decide_eq_false e1, decide_eq_false e2, if_neg e3]; rfl
          clear e3
          cases hb : meetF pts place k
          · have fr : Hid (freeE pts place k = true) := by change _ = _; rw [hfr.out, hb]; rfl
            have hb' := hb
            unfold meetF at hb'
            gi_wp2
            refine wpIn_round_quiet hmx (by kernel_rfl) (by kernel_rfl) ?_
            repeat (first | go_big_quiet_step (fail))
            refine wpQuiet_nil ?_
            intro _ hw'
            obtain ⟨⟨dq, osq⟩, hw''⟩ := hw'
            subst hw''
            have J := below_regrown W dq osq
            generalize grow (redrawn W dq) osq = w1 at J ⊢
            have K1 := (KeepsOthers.of_below J).from W0.heap.size
            have K2 := KB.of_below J hB1.size M5.lt
            have hB2 := bw_trans hB1 J
            replace M0 := M0.below J
            replace M1 := M1.below J
            replace M2 := M2.below J
            replace M3 := M3.below J
            replace M4 := M4.below J
            replace M5 := M5.below J
            replace bX := bX.below J
            clear g0 g1 g4 c0 c1 c20 c21 c22 c23 c3 f3 c4 cx0 cx1 cx2 cx3 J
            obtain ⟨c20, c21, c22, c23⟩ := M2.c4
            have c3 := M3.c1
            have f3 := M3.f1
            have c4 := M4.c1
            obtain ⟨cx0, cx1, cx2, cx3⟩ := bX.c4
            gi_wp2_with (refine ⟨trivial, ?_⟩; gi_at_call 79; refine (CallsIn.inRound l (callsIn_wide.2 (meet_raw _ _ _ _ _))).mono ?_; rw [hb']; rintro e w2 ⟨rfl, J⟩; have c3' := (M3.below J).c1; have f3' := (M3.below J).f1)
            exact ⟨K1.trans ((KeepsOthers.of_below J).from _), K2.trans (KB.of_below J hB2.size M5.lt), ⟨fun q hq => (List.mem_append.1 hq).elim (hp q) (fun e => by simp at e; rw [e]; exact fr.out), M0.below J, M1.below J, M2.below J, M3.below J, M4.below J, M5.below J⟩, bw_trans hB2 J⟩
          · have fr : Hid (freeE pts place k = false) := by change _ = _; rw [hfr.out, hb]; rfl
            have hb' := hb
            unfold meetF at hb'
            gi_wp2
            refine wpIn_round_quiet hmx (by kernel_rfl) (by kernel_rfl) ?_
            repeat (first | go_big_quiet_step (fail))
            refine wpQuiet_nil ?_
            intro _ hw'
            obtain ⟨⟨dq, osq⟩, hw''⟩ := hw'
            subst hw''
            have J := below_regrown W dq osq
            generalize grow (redrawn W dq) osq = w1 at J ⊢
            have K1 := (KeepsOthers.of_below J).from W0.heap.size
            have K2 := KB.of_below J hB1.size M5.lt
            have hB2 := bw_trans hB1 J
            replace M0 := M0.below J
            replace M1 := M1.below J
            replace M2 := M2.below J
            replace M3 := M3.below J
            replace M4 := M4.below J
            replace M5 := M5.below J
            replace bX := bX.below J
            clear g0 g1 g4 c0 c1 c20 c21 c22 c23 c3 f3 c4 cx0 cx1 cx2 cx3 J
            obtain ⟨c20, c21, c22, c23⟩ := M2.c4
            have c3 := M3.c1
            have f3 := M3.f1
            have c4 := M4.c1
            obtain ⟨cx0, cx1, cx2, cx3⟩ := bX.c4
            gi_wp2_with (refine ⟨trivial, ?_⟩; gi_at_call 79; refine (CallsIn.inRound l (callsIn_wide.2 (meet_raw _ _ _ _ _))).mono ?_; rw [hb']; rintro e w2 ⟨rfl, J⟩; have c3' := (M3.below J).c1; have f3' := (M3.below J).f1)
            exact ⟨K1.trans (((KeepsOthers.of_below J).trans (KeepsOthers.setCell _ _ _)).from _), ⟨⟨rfl, ⟨k, hk⟩, List.mem_append.2 (.inr (by simp)), fr.out⟩, (M3.below J).set1 _⟩, bw_set (bw_trans hB2 J) (by simp; omega) _⟩
  case done =>
    rintro D zs W hD rfl ⟨⟨hp, M0, M1, M2, M3, M4, M5⟩, hB1⟩ hK
    have cR := M3.c1
    have fR := M3.f1
    gi_wp2
    have hK' := (KeepsOthers.setCell W ⟨w.heap.size + 1 + 1 + 1, 0, none⟩ (.bool true)).same D _ hK rfl
    refine ⟨by simp, .inl ⟨_, _, rfl, run_takeDeferred hK', ?_⟩⟩
    have hc5 := ((M3.set1 (.bool true)).put (.deferred none) hK' rfl).c1
    refine ⟨.bool true, ?_, ?_, (hB1.setCell (p := ⟨w.heap.size + 1 + 1 + 1, 0, none⟩) (by simp; omega) _).trans (belowK_b (w := w) (Nat.le_refl _) _ D _ _ (by omega) hK' rfl rfl)⟩
    · simp [results, Tryz.f59, go_sem, hc5]
    · rw [freeV_all hp]
  case stop =>
    rintro D c pre W hD hpre ⟨⟨⟨rfl, x, hx, hy⟩, M3⟩, hB1⟩ hK
    gi_wp2
    refine ⟨by simp, .inl ⟨_, _, rfl, run_takeDeferred hK, ?_⟩⟩
    have hc5 := (M3.put (.deferred none) hK rfl).c1
    refine ⟨.bool false, ?_, ?_, hB1.trans (belowK_b (w := w) (Nat.le_refl _) _ D _ _ (by omega) hK rfl rfl)⟩
    · simp [results, Tryz.f59, go_sem, hc5]
    · rw [freeV_not x.2 hy]
end Go.Proofs.YthjnfjnnpabenaaGreatDoor
