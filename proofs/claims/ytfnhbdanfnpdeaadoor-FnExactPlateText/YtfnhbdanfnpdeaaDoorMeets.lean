/-
  OUR OWN TEXT. Whether two rings of a plate have a point in common, by contract.
-/
import Derived.Test.YtfnhbdanfnpdeaaDoorOk
import Derived.Test.YtfnhbdanfnpdeaaDoorWhere
import Derived.Test.YtfnhbdanfnpdeaaDoorPlateM
namespace Go.Proofs.YtfnhbdanfnpdeaaDoor
open Go.RowKit Go.Shelf Go.Sort
attribute [local go_sem] Oper.semAt_some

theorem kb_from {β : Type} {n₀ B base : Nat} {W : World} (hn : n₀ ≤ W.heap.size) (hb : n₀ ≤ base) (hB : B < W.heap.size) (hBb : B < base) : OwnFrom base (fun (_ : β) W' => KB n₀ B W W') :=
  fun s X Y row hs hg hr => ⟨ownFrom_below (β := β) hn hb s X Y row hs.1 hg hr, (hg.block B (Nat.lt_of_lt_of_le hB hs.1.size) (fun e => by have := (hr B e.symm).1; omega)).trans hs.2⟩
/-- The edges at two places meet. -/
def meetX (l1 l2 : List P2) (i k : Nat) : Bool := meetP (ptAt l1 i) (ptAt l1 (nxt l1 i)) (ptAt l2 k) (ptAt l2 (nxt l2 k))
theorem apL_none {l1 l2 : List P2} (h : ∀ x ∈ List.finRange l1.length, ∀ y ∈ List.finRange l2.length, meetX l1 l2 x.1 y.1 = false) : apL l1 l2 = true :=
  (apL_iff l1 l2).2 fun i hi k hk => h ⟨i, hi⟩ (List.mem_finRange _) ⟨k, hk⟩ (List.mem_finRange _)
theorem apL_some {l1 l2 : List P2} (x : Fin l1.length) (y : Fin l2.length) (h : meetX l1 l2 x.1 y.1 = true) : apL l1 l2 = false := by
  rw [Bool.eq_false_iff]; intro hc
  have := (apL_iff l1 l2).1 hc x.1 x.2 y.1 y.2
  unfold meetX at h; rw [h] at this; cases this
set_option maxRecDepth 100000 in
set_option maxHeartbeats 4000000 in
theorem meets_in (n : Nat) (hn : 10 ≤ n) (B1 B2 : Nat) (a1 a2 : Option Addr) (len1 cap1 len2 cap2 : Nat) (l1 l2 : List P2) (hl1 : len1 ≤ 1048576) (hl2 : len2 ≤ 1048576) (ok1 : okV l1 = true) (ok2 : okV l2 = true) (w : World)
    (c1 : w.cell? ⟨B1, 0, none⟩ = some (.slice a1 len1 cap1)) (c2 : w.cell? ⟨B2, 0, none⟩ = some (.slice a2 len2 cap2)) (hP1 : Pts w.heap.size w a1 len1 l1) (hP2 : Pts w.heap.size w a2 len2 l2) :
    CallsIn Fence.wide n Tryd.prog 109 #[.pointer (some ⟨B1, 0, none⟩), .pointer (some ⟨B2, 0, none⟩)] w fun e W' => e = .returned (.bool (!apL l1 l2)) ∧ Below w.heap.size w W' := by
  have h1 : 1 ≤ n := by omega
  have z1 : B1 < w.heap.size := World.block_lt_of_cell? _ _ c1
  have z2 : B2 < w.heap.size := World.block_lt_of_cell? _ _ c2
  refine callsIn_of_wp_marks Tryd.func109 rfl trivial ?_ rfl
  simp only [Tryd.ntmps109, List.size_toArray, List.length_cons, List.length_nil, Nat.reduceAdd, Nat.reduceSub, Array.replicate_succ, Array.replicate_zero, List.push_toArray, List.append_toArray, List.nil_append, List.cons_append]
  gi_wp2_with (refine ⟨trivial, ?_⟩; gi_at_call 58; refine (edges_in (n - 1) _ _ _ _).mono ?_; rintro e w' ⟨rfl, rfl⟩)
  have L0 := ((Lies.new' w (w.heap.size) (by simp) #[.pointer (some ⟨B2, 0, none⟩)] 70).alloc (.cells #[.bool false] 4)).alloc (.cells #[.slice a1 len1 cap1] 25)
  have L1 := (Lies.new' (w.alloc (.cells #[.pointer (some ⟨B2, 0, none⟩)] 70)) (w.heap.size + 1) (by simp) #[.bool false] 4).alloc (.cells #[.slice a1 len1 cap1] 25)
  have L2 := Lies.new' ((w.alloc (.cells #[.pointer (some ⟨B2, 0, none⟩)] 70)).alloc (.cells #[.bool false] 4)) (w.heap.size + 1 + 1) (by simp) #[.slice a1 len1 cap1] 25
  have hB0 : Below w.heap.size w (((w.alloc (.cells #[.pointer (some ⟨B2, 0, none⟩)] 70)).alloc (.cells #[.bool false] 4)).alloc (.cells #[.slice a1 len1 cap1] 25)) := (by repeat (first | exact bw_refl _ | assumption | apply bw_drewN | apply bw_drew | apply bw_alloc | refine bw_set ?_ (by simp) _))
  have hsz : ((((w.alloc (.cells #[.pointer (some ⟨B2, 0, none⟩)] 70)).alloc (.cells #[.bool false] 4)).alloc (.cells #[.slice a1 len1 cap1] 25))).heap.size = w.heap.size + 3 := by simp
  obtain ⟨W0, hW0⟩ : ∃ W0, (((w.alloc (.cells #[.pointer (some ⟨B2, 0, none⟩)] 70)).alloc (.cells #[.bool false] 4)).alloc (.cells #[.slice a1 len1 cap1] 25)) = W0 := ⟨_, rfl⟩
  rw [hW0] at L0 L1 L2 hB0 hsz ⊢
  clear hW0
  have hst := edges_stops (n - 1) (by omega) (w.heap.size + 1 + 1) w.heap.size a1 len1 cap1 l1 W0 (by omega) (by omega) hl1 L2.c1 (hP1.below hB0)
  refine wpIn_rangeFunc_ownH rfl h1 (gf := 81) (lb := #[.pointer (some ⟨w.heap.size + 1 + 1, 0, none⟩)]) rfl trivial (enters_of Tryd.func81 (by kernel_rfl) rfl)
    hst KB_t (KB_b (by omega) (by omega)) (Below.refl _ _) (fun _ => rfl)
    (fun pre W => ((∀ x ∈ pre, ∀ y ∈ List.finRange l2.length, meetX l1 l2 x.1 y.1 = false) ∧ Lies (w.heap.size) #[.pointer (some ⟨B2, 0, none⟩)] 70 W ∧ Lies (w.heap.size + 1) #[.bool false] 4 W ∧ Lies (w.heap.size + 1 + 1) #[.slice a1 len1 cap1] 25 W) ∧ Below w.heap.size w W)
    (fun c pre W => ((c = .ret ∧ ∃ x ∈ pre, ∃ y : Fin l2.length, meetX l1 l2 x.1 y.1 = true) ∧ Lies (w.heap.size + 1) #[.bool true] 4 W) ∧ Below w.heap.size w W)
    (OwnFrom.and (OwnFrom.and (ownFrom_pure _ _) (OwnFrom.and (lies_from _ _ _ _) (OwnFrom.and (lies_from _ _ _ _) (lies_from _ _ _ _)))) (ownFrom_below (Nat.le_refl _) (by omega)))
    (fun c => OwnFrom.and (OwnFrom.and (ownFrom_pure _ _) (lies_from _ _ _ _)) (ownFrom_below (Nat.le_refl _) (by omega)))
    ⟨⟨by simp, L0, L1, L2⟩, hB0⟩
    (fun x a' W => ∃ Bx, w.heap.size + 1 + 1 < Bx ∧ Lies Bx #[.int .i64 (ptAt l1 x.1).1, .int .i64 (ptAt l1 x.1).2, .int .i64 (ptAt l1 (nxt l1 x.1)).1, .int .i64 (ptAt l1 (nxt l1 x.1)).2] 92 W ∧ a' = { tmps := #[.pointer (some ⟨B1, 0, none⟩), .pointer (some ⟨B2, 0, none⟩), undef, .pointer (some ⟨w.heap.size, 0, none⟩), .pointer (some ⟨w.heap.size + 1, 0, none⟩), undef, .pointer (some ⟨Bx, 0, none⟩), undef, undef, .pointer (some ⟨B1, 0, none⟩), .pointer (some ⟨B1, 0, none⟩), .pointer (some ⟨B1, 0, none⟩), .slice a1 len1 cap1, .func (.func 81) #[] #[.pointer (some ⟨w.heap.size + 1 + 1, 0, none⟩)], .int .i64 (x.1 : Int), .agg #[.int .i64 (ptAt l1 x.1).1, .int .i64 (ptAt l1 x.1).2, .int .i64 (ptAt l1 (nxt l1 x.1)).1, .int .i64 (ptAt l1 (nxt l1 x.1)).2], undef, undef, undef, undef, undef, undef, undef, undef, undef, undef], defers := [] })
    (fun x a' _ X Y row hs hg hr => by obtain ⟨Bx, e1, e2, e3⟩ := hs; exact ⟨Bx, e1, lies_own (β := Unit) Bx _ _ () X Y row e2 hg (fun r e => (hr r e).2), e3⟩)
    ?assign ?body ?done ?stop
  case assign =>
    rintro l pre x W K ⟨⟨hp, M0, M1, M2⟩, hB1⟩ hK
    unfold encE
    gi_wp2
    exact hK _ _ ((KeepsOthers.alloc _ _).from _) ((KB.refl _ _ W).alloc hB1.size M2.lt _) ⟨⟨hp, M0.alloc _, M1.alloc _, M2.alloc _⟩, hB1.alloc hB1.size _⟩ ⟨W.heap.size, M2.lt, Lies.new W _ _, rfl⟩
  case body =>
    rintro l pre x a' W hl ⟨r, hr⟩ ⟨⟨hp, M0, M1, M2⟩, hB1⟩ ⟨Bx, hBx, bX, rfl⟩ hlt
    have c0 := M0.c1
    have c2' : W.cell? ⟨B2, 0, none⟩ = some (.slice a2 len2 cap2) := (hB1.cell (p := ⟨B2, 0, none⟩) z2).trans c2
    have h1' : 1 ≤ n - 1 - 1 := by omega
    have hsW := hB1.size
    have s1 := okV_seg' ok1 x.2
    gi_wp2_with (refine ⟨trivial, ?_⟩; gi_at_call 58; refine (CallsIn.inRound l (edges_in (n - 1 - 1 - 1) _ _ _ _)).mono ?_; rintro e w' ⟨rfl, rfl⟩)
    have bN := Lies.new W #[.slice a2 len2 cap2] 25
    have hr' : (W.alloc (.cells #[.slice a2 len2 cap2] 25)).heap[l]? = some (.loop r) := (Below.heap_alloc W _ l (Array.getElem?_eq_some_iff.1 hr).1).trans hr
    have hst2 := edges_stops (n - 1 - 1 - 1) (by omega) W.heap.size w.heap.size a2 len2 cap2 l2 (W.alloc (.cells #[.slice a2 len2 cap2] 25)) (by simp) (by simp; omega) hl2 bN.c1 (hP2.below (hB1.alloc hsW _))
    refine wpIn_rangeFunc_ownN (l₀ := l) (r₀ := r) rfl hr' h1' (gf := 81) (lb := #[.pointer (some ⟨W.heap.size, 0, none⟩)]) rfl trivial (enters_of Tryd.func81 (by kernel_rfl) rfl)
      (hst2.inRound l) KB_t (KB_b (by simp; omega) (by simp)) (Below.refl _ _) (fun _ => rfl)
      (fun pre' W' => ((∀ y ∈ pre', meetX l1 l2 x.1 y.1 = false) ∧ Lies w.heap.size #[.pointer (some ⟨B2, 0, none⟩)] 70 W' ∧ Lies (w.heap.size + 1) #[.bool false] 4 W' ∧ Lies (w.heap.size + 1 + 1) #[.slice a1 len1 cap1] 25 W' ∧ Lies Bx #[.int .i64 (ptAt l1 x.1).1, .int .i64 (ptAt l1 x.1).2, .int .i64 (ptAt l1 (nxt l1 x.1)).1, .int .i64 (ptAt l1 (nxt l1 x.1)).2] 92 W' ∧ Lies W.heap.size #[.slice a2 len2 cap2] 25 W') ∧ (KB w.heap.size (w.heap.size + 1 + 1) W W' ∧ KeepsFrom W0.heap.size W W'))
      (fun c pre' W' => ((c = .ret ∧ ∃ y ∈ pre', meetX l1 l2 x.1 y.1 = true) ∧ Lies (w.heap.size + 1) #[.bool true] 4 W') ∧ (Below w.heap.size W W' ∧ KeepsFrom W0.heap.size W W'))
      (OwnFrom.and (OwnFrom.and (ownFrom_pure _ _) (OwnFrom.and (lies_from _ _ _ _) (OwnFrom.and (lies_from _ _ _ _) (OwnFrom.and (lies_from _ _ _ _) (OwnFrom.and (lies_from _ _ _ _) (lies_from _ _ _ _)))))) (OwnFrom.and (kb_from hsW (by simp; omega) M2.lt (by simp; have := M2.lt; omega)) (ownFrom_keepsFrom (by simp))))
      (fun c => OwnFrom.and (OwnFrom.and (ownFrom_pure _ _) (lies_from _ _ _ _)) (OwnFrom.and (ownFrom_below hsW (by simp; omega)) (ownFrom_keepsFrom (by simp))))
      ⟨⟨by simp, M0.alloc _, M1.alloc _, M2.alloc _, bX.alloc _, bN⟩, (KB.refl _ _ W).alloc hsW M2.lt _, (KeepsOthers.alloc _ _).from _⟩
      (fun y a'' W' => ∃ By, W.heap.size < By ∧ Lies By #[.int .i64 (ptAt l2 y.1).1, .int .i64 (ptAt l2 y.1).2, .int .i64 (ptAt l2 (nxt l2 y.1)).1, .int .i64 (ptAt l2 (nxt l2 y.1)).2] 92 W' ∧ a'' = { tmps := #[.pointer (some ⟨B1, 0, none⟩), .pointer (some ⟨B2, 0, none⟩), undef, .pointer (some ⟨w.heap.size, 0, none⟩), .pointer (some ⟨w.heap.size + 1, 0, none⟩), undef, .pointer (some ⟨Bx, 0, none⟩), undef, .pointer (some ⟨By, 0, none⟩), .pointer (some ⟨B1, 0, none⟩), .pointer (some ⟨B1, 0, none⟩), .pointer (some ⟨B1, 0, none⟩), .slice a1 len1 cap1, .func (.func 81) #[] #[.pointer (some ⟨w.heap.size + 1 + 1, 0, none⟩)], .int .i64 (x.1 : Int), .agg #[.int .i64 (ptAt l1 x.1).1, .int .i64 (ptAt l1 x.1).2, .int .i64 (ptAt l1 (nxt l1 x.1)).1, .int .i64 (ptAt l1 (nxt l1 x.1)).2], .pointer (some ⟨B2, 0, none⟩), .pointer (some ⟨B2, 0, none⟩), .pointer (some ⟨B2, 0, none⟩), .slice a2 len2 cap2, .func (.func 81) #[] #[.pointer (some ⟨W.heap.size, 0, none⟩)], .int .i64 (y.1 : Int), .agg #[.int .i64 (ptAt l2 y.1).1, .int .i64 (ptAt l2 y.1).2, .int .i64 (ptAt l2 (nxt l2 y.1)).1, .int .i64 (ptAt l2 (nxt l2 y.1)).2], undef, undef, undef], defers := [] })
      (fun y a'' _ X Y row hs hg hr => by obtain ⟨By, e1, e2, e3⟩ := hs; exact ⟨By, e1, lies_own (β := Unit) By _ _ () X Y row e2 hg (fun r e => (hr r e).2), e3⟩)
      ?assign2 ?body2 ?done2 ?stop2
    case assign2 =>
      rintro l3 pre' y W' K ⟨⟨hq, N0, N1, N2, NX, NS⟩, hKB, hKF⟩ hK
      unfold encE
      gi_wp2
      have hs' : w.heap.size ≤ W'.heap.size := Nat.le_trans hsW hKB.1.size
      exact hK _ _ ((KeepsOthers.alloc _ _).from _) ((KB.refl _ _ W').alloc hs' NS.lt _) ⟨⟨hq, N0.alloc _, N1.alloc _, N2.alloc _, NX.alloc _, NS.alloc _⟩, hKB.alloc hs' N2.lt _, hKF.trans ((KeepsOthers.alloc _ _).from _)⟩ ⟨W'.heap.size, NS.lt, Lies.new W' _ _, rfl⟩
    case body2 =>
      rintro l3 pre' y a'' W' _ _ ⟨⟨hq, N0, N1, N2, NX, NS⟩, hKB, hKF⟩ ⟨By, hBy, bY, rfl⟩ _
      have cR := N1.c1
      have fR := N1.f1
      obtain ⟨x0, x1, x2, x3⟩ := NX.c4
      obtain ⟨y0, y1, y2, y3⟩ := bY.c4
      have hs' : w.heap.size ≤ W'.heap.size := Nat.le_trans hsW hKB.1.size
      have s2 := okV_seg' ok2 y.2
      have h1'' : 1 ≤ n - 1 - 1 - 1 - 1 := by omega
      obtain ⟨i, hi⟩ := x
      obtain ⟨k, hk⟩ := y
      dsimp only at *
      have HX : Hid (∀ w, Calls Tryd.prog 83 #[.agg #[.int .i64 (ptAt l1 i).1, .int .i64 (ptAt l1 i).2, .int .i64 (ptAt l1 (nxt l1 i)).1, .int .i64 (ptAt l1 (nxt l1 i)).2], .agg #[.int .i64 (ptAt l2 k).1, .int .i64 (ptAt l2 k).2, .int .i64 (ptAt l2 (nxt l2 k)).1, .int .i64 (ptAt l2 (nxt l2 k)).2]] w fun e w' => e = .returned (.bool (meetX l1 l2 i k)) ∧ Below w.heap.size w w') := fun w => by
        have := meet_raw (ptAt l1 i) (ptAt l1 (nxt l1 i)) (ptAt l2 k) (ptAt l2 (nxt l2 k)) w; rwa [meetQ_of s1 s2] at this
      cases hme : meetX l1 l2 i k
      · gi_wp2_with (refine ⟨trivial, ?_⟩; gi_at_call 83; refine (CallsIn.inRound l3 (callsIn_wide.2 (HX.out _))).mono ?_; rw [hme]; rintro e w2 ⟨rfl, J⟩)
        exact ⟨(KeepsOthers.of_below J).from _, KB.of_below J hs' NS.lt, ⟨fun q hq' => (List.mem_append.1 hq').elim (hq q) (fun e => by simp at e; rw [e]; exact hme), N0.below J, N1.below J, N2.below J, NX.below J, NS.below J⟩, hKB.trans (KB.of_below J hs' N2.lt), hKF.trans ((KeepsOthers.of_below J).from _)⟩
      · gi_wp2_with (refine ⟨trivial, ?_⟩; gi_at_call 83; refine (CallsIn.inRound l3 (callsIn_wide.2 (HX.out _))).mono ?_; rw [hme]; rintro e w2 ⟨rfl, J⟩; have cR' := (N1.below J).c1; have fR' := (N1.below J).f1)
        exact ⟨((KeepsOthers.of_below J).trans (KeepsOthers.setCell _ _ _)).from _, ⟨⟨rfl, ⟨k, hk⟩, List.mem_append.2 (.inr (by simp)), hme⟩, (N1.below J).set1 _⟩, (hKB.1.trans (J.mono hs')).setCell (p := ⟨w.heap.size + 1, 0, none⟩) (by simp) _, hKF.trans (((KeepsOthers.of_below J).trans (KeepsOthers.setCell _ _ _)).from _)⟩
    case done2 =>
      rintro ys' W' rfl ⟨⟨hq, N0, N1, N2, NX, NS⟩, hKB, hKF⟩
      gi_wp2
      exact ⟨hKF, hKB, ⟨fun z hz => (List.mem_append.1 hz).elim (hp z) (fun e => by simp at e; rw [e]; exact hq), N0, N1, N2⟩, hB1.trans hKB.1⟩
    case stop2 =>
      rintro c pre' W' hpre ⟨⟨⟨rfl, y, hy, hm⟩, N1⟩, hBW, hKF⟩
      gi_wp2
      exact ⟨hKF, ⟨⟨rfl, x, List.mem_append.2 (.inr (by simp)), y, hm⟩, N1⟩, hB1.trans hBW⟩
  case done =>
    rintro D zs W hD rfl ⟨⟨hp, M0, M1, M2⟩, hB1⟩ hK
    have cR := M1.c1
    have fR := M1.f1
    gi_wp2
    have hK' := (KeepsOthers.setCell W ⟨w.heap.size + 1, 0, none⟩ (.bool false)).same D _ hK rfl
    refine ⟨by simp, .inl ⟨_, _, rfl, run_takeDeferred hK', ?_⟩⟩
    have hc5 := ((M1.set1 (.bool false)).put (.deferred none) hK' rfl).c1
    refine ⟨.bool false, ?_, ?_, (hB1.setCell (p := ⟨w.heap.size + 1, 0, none⟩) (by simp) _).trans (belowK_b (w := w) (Nat.le_refl _) _ D _ _ (by omega) hK' rfl rfl)⟩
    · simp [results, Tryd.f109, go_sem, hc5]
    · rw [apL_none hp]; rfl
  case stop =>
    rintro D c pre W hD hpre ⟨⟨⟨rfl, x, hx, y, hy⟩, M1⟩, hB1⟩ hK
    gi_wp2
    refine ⟨by simp, .inl ⟨_, _, rfl, run_takeDeferred hK, ?_⟩⟩
    have hc5 := (M1.put (.deferred none) hK rfl).c1
    refine ⟨.bool true, ?_, ?_, hB1.trans (belowK_b (w := w) (Nat.le_refl _) _ D _ _ (by omega) hK rfl rfl)⟩
    · simp [results, Tryd.f109, go_sem, hc5]
    · rw [apL_some x y hy]; rfl
theorem meets_any (B1 B2 : Nat) (a1 a2 : Option Addr) (len1 cap1 len2 cap2 : Nat) (l1 l2 : List P2) (hl1 : len1 ≤ 1048576) (hl2 : len2 ≤ 1048576) (ok1 : okV l1 = true) (ok2 : okV l2 = true) (w : World)
    (c1 : w.cell? ⟨B1, 0, none⟩ = some (.slice a1 len1 cap1)) (c2 : w.cell? ⟨B2, 0, none⟩ = some (.slice a2 len2 cap2)) (hP1 : Pts w.heap.size w a1 len1 l1) (hP2 : Pts w.heap.size w a2 len2 l2) :
    Calls Tryd.prog 109 #[.pointer (some ⟨B1, 0, none⟩), .pointer (some ⟨B2, 0, none⟩)] w fun e W' => e = .returned (.bool (!apL l1 l2)) ∧ Below w.heap.size w W' :=
  callsIn_wide.1 (meets_in 10 (Nat.le_refl _) B1 B2 a1 a2 len1 cap1 len2 cap2 l1 l2 hl1 hl2 ok1 ok2 w c1 c2 hP1 hP2)
end Go.Proofs.YtfnhbdanfnpdeaaDoor
