/-
  OUR OWN TEXT. whereIn, by contract, at a loop and a point that are ok.
-/
import Derived.Test.YtfnhbdanfnpdeaaDoorOk
import Derived.Test.YtfnhbdanfnpdeaaDoorPass
import Derived.Test.YtfnhbdanfnpdeaaDoorLoopX
namespace Go.Proofs.YtfnhbdanfnpdeaaDoor
open Go.RowKit Go.Shelf Go.Sort
attribute [local go_sem] Oper.semAt_some

theorem fin_map' {β : Type} (n : Nat) (f : Nat → β) : ((List.finRange n).map fun k => f k.1) = (List.range n).map f := by
  apply List.ext_getElem
  · simp
  · intro i h1 h2; simp
/-- Where one is behind edges that pass, or not. -/
def whereL (l : List Bool) : Int := l.foldl (fun s b => if b then -s else s) (-1)
theorem whereL_snoc (l : List Bool) (b : Bool) : whereL (l ++ [b]) = if b then - whereL l else whereL l := by unfold whereL; rw [List.foldl_append]; rfl
theorem whereL_range (pts : List P2) (p : P2) (n : Nat) : whereL ((List.range n).map (passE pts p)) = whereK pts p n := by
  induction n with
  | zero => rfl
  | succ n ih => rw [List.range_succ, List.map_append, List.map_cons, List.map_nil, whereL_snoc, ih]; rfl
theorem foldl_pm (l : List Bool) : ∀ s : Int, (s = -1 ∨ s = 1) → (l.foldl (fun s b => if b then -s else s) s = -1 ∨ l.foldl (fun s b => if b then -s else s) s = 1) := by
  induction l with
  | nil => intro s h; exact h
  | cons b l ih => intro s h; rw [List.foldl_cons]; apply ih; cases b <;> simp <;> omega
theorem whereL_pm (l : List Bool) : whereL l = -1 ∨ whereL l = 1 := foldl_pm l (-1) (.inl rfl)
theorem okV_seg' {pts : List P2} (h : okV pts = true) {i : Nat} (hi : i < pts.length) : sgP (ptAt pts i) (ptAt pts (nxt pts i)) = true := ((okV_iff pts).1 h).seg i hi
theorem inI_on' {pts : List P2} {p : P2} {i : Nat} (hi : i < pts.length) (h : onE pts p i = true) : inI pts p = 0 := by
  unfold inI; rw [if_pos]; rw [List.any_eq_true]; exact ⟨i, List.mem_range.2 hi, h⟩
theorem inI_off' {pts : List P2} {p : P2} (h : ∀ k ∈ List.finRange pts.length, onE pts p k.1 = false) : inI pts p = whereK pts p pts.length := by
  unfold inI; rw [if_neg]; rw [List.any_eq_true]; rintro ⟨i, hi, e⟩; rw [h ⟨i, List.mem_range.1 hi⟩ (List.mem_finRange _)] at e; cases e
theorem pt_raw (p : P2) (w : World) : Calls Tryd.prog 46 #[.agg #[.int .i64 p.1, .int .i64 p.2]] w fun e w' => e = .returned (.bool (ptB p.1 p.2)) ∧ Below w.heap.size w w' := ptOk_any _ _ w
set_option maxRecDepth 100000 in
set_option maxHeartbeats 4000000 in
theorem where_in (n : Nat) (hn : 8 ≤ n) (a : Option Addr) (len cap : Nat) (pts : List P2) (p : P2) (hlen : len ≤ 1048576) (hok : okV pts = true) (hp : ptB p.1 p.2 = true) (w : World) (hP : Pts w.heap.size w a len pts) :
    CallsIn Fence.wide n Tryd.prog 52 #[.slice a len cap, .agg #[.int .i64 p.1, .int .i64 p.2]] w fun e W' => e = .returned (.int .i64 (inI pts p)) ∧ Below w.heap.size w W' := by
  have h1 : 1 ≤ n := by omega
  have hl := hP.1
  have hmx : Tryd.prog.follows .mixedOrders = true := by kernel_rfl
  refine callsIn_of_wp_marks Tryd.func52 rfl trivial ?_ rfl
  simp only [Tryd.ntmps52, List.size_toArray, List.length_cons, List.length_nil, Nat.reduceAdd, Nat.reduceSub, Array.replicate_succ, Array.replicate_zero, List.push_toArray, List.append_toArray, List.nil_append, List.cons_append]
  gi_wp2_with (refine ⟨trivial, ?_⟩; gi_at_call 58; refine (edges_in (n - 1) _ _ _ _).mono ?_; rintro e w' ⟨rfl, rfl⟩)
  have Q0 := (((Lies.new' w (w.heap.size) (by simp) #[.int .i64 p.1, .int .i64 p.2] 46).alloc (.cells #[.int .i64 0] 3)).alloc (.cells #[.int .i64 (-1)] 3)).alloc (.cells #[.slice a len cap] 25)
  have Q1 := ((Lies.new' (w.alloc (.cells #[.int .i64 p.1, .int .i64 p.2] 46)) (w.heap.size + 1) (by simp) #[.int .i64 0] 3).alloc (.cells #[.int .i64 (-1)] 3)).alloc (.cells #[.slice a len cap] 25)
  have L0 := (Lies.new' ((w.alloc (.cells #[.int .i64 p.1, .int .i64 p.2] 46)).alloc (.cells #[.int .i64 0] 3)) (w.heap.size + 1 + 1) (by simp) #[.int .i64 (-1)] 3).alloc (.cells #[.slice a len cap] 25)
  have L1 := Lies.new' (((w.alloc (.cells #[.int .i64 p.1, .int .i64 p.2] 46)).alloc (.cells #[.int .i64 0] 3)).alloc (.cells #[.int .i64 (-1)] 3)) (w.heap.size + 1 + 1 + 1) (by simp) #[.slice a len cap] 25
  have hB0 : Below w.heap.size w ((((w.alloc (.cells #[.int .i64 p.1, .int .i64 p.2] 46)).alloc (.cells #[.int .i64 0] 3)).alloc (.cells #[.int .i64 (-1)] 3)).alloc (.cells #[.slice a len cap] 25)) := (by repeat (first | exact bw_refl _ | assumption | apply bw_drewN | apply bw_drew | apply bw_alloc | refine bw_set ?_ (by simp) _))
  have hsz : (((((w.alloc (.cells #[.int .i64 p.1, .int .i64 p.2] 46)).alloc (.cells #[.int .i64 0] 3)).alloc (.cells #[.int .i64 (-1)] 3)).alloc (.cells #[.slice a len cap] 25))).heap.size = w.heap.size + 4 := by simp
  obtain ⟨W0, hW0⟩ : ∃ W0, ((((w.alloc (.cells #[.int .i64 p.1, .int .i64 p.2] 46)).alloc (.cells #[.int .i64 0] 3)).alloc (.cells #[.int .i64 (-1)] 3)).alloc (.cells #[.slice a len cap] 25)) = W0 := ⟨_, rfl⟩
  rw [hW0] at Q0 Q1 L0 L1 hB0 hsz ⊢
  clear hW0
  have hst := edges_stops (n - 1) (by omega) (w.heap.size + 1 + 1 + 1) w.heap.size a len cap pts W0 (by omega) (by omega) hlen L1.c1 (hP.below hB0)
  refine wpIn_rangeFunc_ownH rfl h1 (gf := 81) (lb := #[.pointer (some ⟨w.heap.size + 1 + 1 + 1, 0, none⟩)]) rfl trivial (enters_of Tryd.func81 (by kernel_rfl) rfl)
    hst KB_t (KB_b (by omega) (by omega)) (Below.refl _ _) (fun _ => rfl)
    (fun pre W => ((∀ k ∈ pre, onE pts p k.1 = false) ∧ Lies w.heap.size #[.int .i64 p.1, .int .i64 p.2] 46 W ∧ Lies (w.heap.size + 1) #[.int .i64 0] 3 W ∧ Lies (w.heap.size + 1 + 1) #[.int .i64 (whereL (pre.map fun k => passE pts p k.1))] 3 W ∧ Lies (w.heap.size + 1 + 1 + 1) #[.slice a len cap] 25 W) ∧ Below w.heap.size w W)
    (fun c pre W => ((c = .ret ∧ ∃ k ∈ pre, onE pts p k.1 = true) ∧ Lies (w.heap.size + 1) #[.int .i64 0] 3 W) ∧ Below w.heap.size w W)
    (OwnFrom.and (OwnFrom.and (ownFrom_pure _ _) (OwnFrom.and (lies_from _ _ _ _) (OwnFrom.and (lies_from _ _ _ _) (OwnFrom.and (Own.from (liesF_own _ _ _) _) (lies_from _ _ _ _))))) (ownFrom_below (Nat.le_refl _) (by omega)))
    (fun c => OwnFrom.and (OwnFrom.and (ownFrom_pure _ _) (lies_from _ _ _ _)) (ownFrom_below (Nat.le_refl _) (by omega)))
    ⟨⟨by simp, Q0, Q1, L0, L1⟩, hB0⟩
    (fun x a' W => ∃ Bx, w.heap.size + 1 + 1 + 1 < Bx ∧ Lies Bx #[.int .i64 (ptAt pts x.1).1, .int .i64 (ptAt pts x.1).2, .int .i64 (ptAt pts (nxt pts x.1)).1, .int .i64 (ptAt pts (nxt pts x.1)).2] 92 W ∧ a' = { tmps := #[.slice a len cap, .agg #[.int .i64 p.1, .int .i64 p.2], undef, .pointer (some ⟨w.heap.size, 0, none⟩), .pointer (some ⟨w.heap.size + 1, 0, none⟩), .pointer (some ⟨w.heap.size + 1 + 1, 0, none⟩), undef, .pointer (some ⟨Bx, 0, none⟩), .slice a len cap, .func (.func 81) #[] #[.pointer (some ⟨w.heap.size + 1 + 1 + 1, 0, none⟩)], .int .i64 (x.1 : Int), .agg #[.int .i64 (ptAt pts x.1).1, .int .i64 (ptAt pts x.1).2, .int .i64 (ptAt pts (nxt pts x.1)).1, .int .i64 (ptAt pts (nxt pts x.1)).2], undef, undef, undef, undef, undef, undef, undef, undef, undef], defers := [] })
    (fun x a' _ X Y row hs hg hr => by obtain ⟨Bx, e1, e2, e3⟩ := hs; exact ⟨Bx, e1, lies_own (β := Unit) Bx _ _ () X Y row e2 hg (fun r e => (hr r e).2), e3⟩)
    ?assign ?body ?done ?stop
  case assign =>
    rintro l pre x W K ⟨⟨ho, M0, M1, M2, M3⟩, hB1⟩ hK
    unfold encE
    gi_wp2
    exact hK _ _ ((KeepsOthers.alloc _ _).from _) ((KB.refl _ _ W).alloc hB1.size M3.lt _) ⟨⟨ho, M0.alloc _, M1.alloc _, M2.alloc _, M3.alloc _⟩, hB1.alloc hB1.size _⟩ ⟨W.heap.size, M3.lt, Lies.new W _ _, rfl⟩
  case body =>
    rintro l pre x a' W hl2 ⟨r, hr⟩ ⟨⟨ho, M0, M1, M2, M3⟩, hB1⟩ ⟨Bx, hBx, bX, rfl⟩ hlt
    obtain ⟨k, hk⟩ := x
    dsimp only at *
    have sk := okV_seg' hok hk
    obtain ⟨pa, pb⟩ := sgP_pt sk
    have hB1z := hB1.size
    obtain ⟨c00, c01⟩ := blk_2 M0
    have c1 := M1.c1
    have f1 := M1.f1
    obtain ⟨cx0, cx1, cx2, cx3⟩ := bX.c4
    have h1' : 1 ≤ n - 1 - 1 := by omega
    have hpm := whereL_pm (pre.map fun k => passE pts p k.1)
    have hsn : Hid (∀ b, passE pts p k = b → whereL ((pre ++ [(⟨k, hk⟩ : Fin pts.length)]).map fun q => passE pts p q.1) = if b then - whereL (pre.map fun q => passE pts p q.1) else whereL (pre.map fun q => passE pts p q.1)) := by
      intro b hb; rw [List.map_append, List.map_cons, List.map_nil, whereL_snoc, hb]
    generalize whereL (pre.map fun q => passE pts p q.1) = u at hpm hsn M2
    have nu : IntKind.i64.wrap (-u) = -u := wrap_small (by omega) (by omega)
    have HX : Hid (∀ w, Calls Tryd.prog 76 #[.agg #[.int .i64 (ptAt pts k).1, .int .i64 (ptAt pts k).2, .int .i64 (ptAt pts (nxt pts k)).1, .int .i64 (ptAt pts (nxt pts k)).2], .agg #[.int .i64 p.1, .int .i64 p.2]] w fun e w' => e = .returned (.bool (onE pts p k)) ∧ Below w.heap.size w w') := fun w => by
      have := has_raw (ptAt pts k) (ptAt pts (nxt pts k)) p w; rwa [hasQ_of sk hp] at this
    have PX : Hid (∀ w, Calls Tryd.prog 77 #[.agg #[.int .i64 (ptAt pts k).1, .int .i64 (ptAt pts k).2, .int .i64 (ptAt pts (nxt pts k)).1, .int .i64 (ptAt pts (nxt pts k)).2], .agg #[.int .i64 p.1, .int .i64 p.2]] w fun e w' => e = .returned (.bool (passE pts p k)) ∧ Below w.heap.size w w') := fun w => pass_ok _ _ p pa pb hp w
    cases hon : onE pts p k
    · cases hpa : passE pts p k
      · gi_wp2_with (refine ⟨trivial, ?_⟩; gi_at_call 76; refine (CallsIn.inRound l (callsIn_wide.2 (HX.out _))).mono ?_; rw [hon]; rintro e w2 ⟨rfl, J⟩; obtain ⟨c00', c01'⟩ := blk_2 (M0.below J); obtain ⟨cx0', cx1', cx2', cx3'⟩ := (bX.below J).c4)
        refine ⟨trivial, ?_⟩
        gi_at_call 77
        refine (CallsIn.inRound l (callsIn_wide.2 (PX.out _))).mono ?_
        rw [hpa]
        rintro e w3 ⟨rfl, J3⟩
        have JJ := bw_trans J J3
        gi_wp2
        exact ⟨(KeepsOthers.of_below JJ).from _, KB.of_below JJ hB1.size M3.lt, ⟨fun q hq => (List.mem_append.1 hq).elim (ho q) (fun e => by simp at e; rw [e]; exact hon), M0.below JJ, M1.below JJ, (by have := hsn.out _ hpa; simp only [Bool.false_eq_true, if_false] at this; rw [this]; exact M2.below JJ), M3.below JJ⟩, bw_trans hB1 JJ⟩
      · gi_wp2_with (refine ⟨trivial, ?_⟩; gi_at_call 76; refine (CallsIn.inRound l (callsIn_wide.2 (HX.out _))).mono ?_; rw [hon]; rintro e w2 ⟨rfl, J⟩; obtain ⟨c00', c01'⟩ := blk_2 (M0.below J); obtain ⟨cx0', cx1', cx2', cx3'⟩ := (bX.below J).c4)
        refine ⟨trivial, ?_⟩
        gi_at_call 77
        refine (CallsIn.inRound l (callsIn_wide.2 (PX.out _))).mono ?_
        rw [hpa]
        rintro e w3 ⟨rfl, J3⟩
        have JJ := bw_trans J J3
        have c2 := (M2.below JJ).c1
        have f2 := (M2.below JJ).f1
        gi_wp2
        exact ⟨((KeepsOthers.of_below JJ).trans (KeepsOthers.setCell _ _ _)).from _, (KB.of_below JJ hB1.size M3.lt).setCell (by simp; omega) (by simp) _, ⟨fun q hq => (List.mem_append.1 hq).elim (ho q) (fun e => by simp at e; rw [e]; exact hon), (M0.below JJ).other (by omega) _, (M1.below JJ).other (by omega) _, (by have := hsn.out _ hpa; simp only [if_true] at this; rw [this]; exact (M2.below JJ).set1 _), (M3.below JJ).other (by omega) _⟩, bw_set (bw_trans hB1 JJ) (by simp; omega) _⟩
    · gi_wp2_with (refine ⟨trivial, ?_⟩; gi_at_call 76; refine (CallsIn.inRound l (callsIn_wide.2 (HX.out _))).mono ?_; rw [hon]; rintro e w2 ⟨rfl, J⟩; have c1' := (M1.below J).c1; have f1' := (M1.below J).f1)
      exact ⟨((KeepsOthers.of_below J).trans (KeepsOthers.setCell _ _ _)).from _, ⟨⟨rfl, ⟨k, hk⟩, List.mem_append.2 (.inr (by simp)), hon⟩, (M1.below J).set1 _⟩, bw_set (bw_trans hB1 J) (by simp) _⟩
  case done =>
    rintro D zs W hD rfl ⟨⟨ho, M0, M1, M2, M3⟩, hB1⟩ hK
    obtain ⟨u, hu⟩ : ∃ u, whereL ((List.finRange pts.length).map fun k => passE pts p k.1) = u := ⟨_, rfl⟩
    rw [hu] at M2
    have HU : Hid (inI pts p = u) := by change _ = _; rw [inI_off' ho, ← hu, fin_map', whereL_range]
    clear hu ho
    have cR := M1.c1
    have fR := M1.f1
    have c2 := M2.c1
    gi_wp2
    have hK' := (KeepsOthers.setCell W ⟨w.heap.size + 1, 0, none⟩ (.int .i64 u)).same D _ hK rfl
    refine ⟨by simp, .inl ⟨_, _, rfl, run_takeDeferred hK', ?_⟩⟩
    have hc5 := ((M1.set1 (.int .i64 u)).put (.deferred none) hK' rfl).c1
    refine ⟨.int .i64 u, ?_, ?_, (hB1.setCell (p := ⟨w.heap.size + 1, 0, none⟩) (by simp) _).trans (belowK_b (w := w) (Nat.le_refl _) _ D _ _ (by omega) hK' rfl rfl)⟩
    · simp [results, Tryd.f52, go_sem, hc5]
    · rw [HU.out]
  case stop =>
    rintro D c pre W hD hpre ⟨⟨⟨rfl, x, hx, hy⟩, M1⟩, hB1⟩ hK
    gi_wp2
    refine ⟨by simp, .inl ⟨_, _, rfl, run_takeDeferred hK, ?_⟩⟩
    have hc5 := (M1.put (.deferred none) hK rfl).c1
    refine ⟨.int .i64 0, ?_, ?_, hB1.trans (belowK_b (w := w) (Nat.le_refl _) _ D _ _ (by omega) hK rfl rfl)⟩
    · simp [results, Tryd.f52, go_sem, hc5]
    · rw [inI_on' x.2 hy]
/-- whereIn. -/
theorem where_any (a : Option Addr) (len cap : Nat) (pts : List P2) (p : P2) (hlen : len ≤ 1048576) (hok : okV pts = true) (hp : ptB p.1 p.2 = true) (w : World) (hP : Pts w.heap.size w a len pts) :
    Calls Tryd.prog 52 #[.slice a len cap, .agg #[.int .i64 p.1, .int .i64 p.2]] w fun e W' => e = .returned (.int .i64 (inI pts p)) ∧ Below w.heap.size w W' :=
  callsIn_wide.1 (where_in 8 (Nat.le_refl _) a len cap pts p hlen hok hp w hP)
end Go.Proofs.YtfnhbdanfnpdeaaDoor
