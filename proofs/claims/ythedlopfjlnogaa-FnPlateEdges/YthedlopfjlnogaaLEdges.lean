/-
  OUR OWN TEXT. LoopEdges, by contract, at every points.
-/
import Derived.Test.YthedlopfjlnogaaOk
import Derived.Test.YthedlopfjlnogaaSEdge
import Derived.Test.YthedlopfjlnogaaSOk
namespace Go.Proofs.Ythedlopfjlnogaa
open Go.RowKit Go.Shelf Go.Sort
attribute [local go_sem] Oper.semAt_some

/-- The cells of the edges that have come. -/
def segF (pts : List P2) (pre : List (Fin pts.length)) : List Value := pre.flatMap fun k => seg4 (ptAt pts k.1) (ptAt pts (nxt pts k.1))
theorem segF_snoc (pts : List P2) (pre : List (Fin pts.length)) (k : Fin pts.length) : segF pts (pre ++ [k]) = segF pts pre ++ seg4 (ptAt pts k.1) (ptAt pts (nxt pts k.1)) := by simp [segF]
theorem segR (pts : List P2) (n : Nat) : ((List.range n).flatMap fun k => seg4 (ptAt pts k) (ptAt pts (nxt pts k))) = segCells pts n := by
  induction n with
  | zero => rfl
  | succ n ih => rw [List.range_succ, List.flatMap_append, ih]; simp [segCells]
theorem segF_all (pts : List P2) : segF pts (List.finRange pts.length) = segCells pts pts.length := by
  rw [← segR]
  have : List.range pts.length = (List.finRange pts.length).map fun k => k.1 := by
    apply List.ext_getElem
    · simp
    · intro i h1 h2; simp
  rw [this, List.flatMap_map]; rfl
theorem own_base {W : World} {base base' : Nat} {e : TypeId} {size n : Nat} {v : Value} {xs : List Value} (h : W.ownsRow base e size v n xs) (hb : base' ≤ base) : W.ownsRow base' e size v n xs :=
  ⟨h.1, h.2.imp id fun ⟨g, c, cur, e1, h1, r⟩ => ⟨g, c, cur, e1, Nat.le_trans hb h1, r⟩⟩
/-- What LoopEdges answers. -/
def EdgesAns (base : Nat) (pts : List P2) (len : Nat) (e : Ending) (W' : World) : Prop :=
  (okV pts = false ∧ e = .returned (.slice none 0 0)) ∨ (okV pts = true ∧ ∃ vv, e = .returned vv ∧ W'.ownsRow base 44 4 vv len (segCells pts len))
/-- What the specification's answers. -/
def SEdgesAns (base : Nat) (pts : List P2) (len : Nat) (e : Ending) (W' : World) : Prop :=
  ∃ vv, e = .returned vv ∧ W'.ownsRow base 44 4 vv (if okV pts then len else 0) (segCells pts (if okV pts then len else 0))
set_option maxRecDepth 100000 in
set_option maxHeartbeats 4000000 in
theorem loopEdges_in (n : Nat) (hn : 10 ≤ n) (a : Option Addr) (len cap : Nat) (pts : List P2) (hlen : len ≤ 1048576) (w : World) (hP : Pts w.heap.size w a len pts) :
    CallsIn Fence.wide n Try.prog 24 #[.slice a len cap] w fun e W' => EdgesAns w.heap.size pts len e W' ∧ Below w.heap.size w W' := by
  obtain ⟨i0, hi0, hz0, hz1, hz2⟩ := info_parts Try.infoSeg
  have h1 : 1 ≤ n := by omega
  have hl := hP.1
  have hmx : Try.prog.follows .mixedOrders = true := by kernel_rfl
  have hcall := ok_any a len cap pts hlen w hP
  cases hok : okV pts
  · rw [hok] at hcall
    refine callsIn_wide.2 ?_
    clear hP hl
    go_enter Try.func24, Try.ntmps24
    go_wp2_with (go_at_call 47; refine hcall.mono ?_; rintro e v ⟨rfl, J0⟩)
    go_ret
    exact ⟨.inl ⟨hok, rfl⟩, J0⟩
  rw [hok] at hcall
  have h8 := ((okV_iff pts).1 hok).hi
  refine callsIn_of_wp_marks Try.func24 rfl trivial ?_ rfl
  simp only [Try.ntmps24, List.size_toArray, List.length_cons, List.length_nil, Nat.reduceAdd, Nat.reduceSub, Array.replicate_succ, Array.replicate_zero, List.push_toArray, List.append_toArray, List.nil_append, List.cons_append]
  have z0' : Hid (∀ v, Below w.heap.size w v → w.heap.size ≤ v.heap.size) := fun v h => h.size
  gi_wp2_with (first | (refine ⟨trivial, ?_⟩; gi_at_call 47; refine (callsIn_wide.2 hcall).mono ?_; rintro e v ⟨rfl, J0⟩) | (gi_at_make; refine wpListIn_make_own _ rfl _ _ 40 rfl w.heap.size 44 i0 _ 4 Try.underlying40 hi0 hz0 hz1 .i64 .i64 _ len rfl rfl rfl (by rw [hz2]; omega) (by simp [maxLen]; omega) (z0'.out _ J0) ?_; intro v1 hown hgr) | (refine ⟨trivial, ?_⟩; gi_at_call 60; refine (edges_in (n - 1) _ _ _ _).mono ?_; rintro e w' ⟨rfl, rfl⟩))
  have z0 := J0.size
  have J1 : Below w.heap.size w v1 := J0.grown hgr z0 (fun k e => by cases e)
  have z1 := J1.size
  have hrow := (hown.alloc (.cells #[.slice (some ⟨v.heap.size, 0, none⟩) 0 len] 40)).alloc (.cells #[.slice a len cap] 23)
  have L0 := (Lies.new' v1 (v1.heap.size) (by simp) #[.slice (some ⟨v.heap.size, 0, none⟩) 0 len] 40).alloc (.cells #[.slice a len cap] 23)
  have L1 := Lies.new' (v1.alloc (.cells #[.slice (some ⟨v.heap.size, 0, none⟩) 0 len] 40)) (v1.heap.size + 1) (by simp) #[.slice a len cap] 23
  have hB0 : Below w.heap.size w ((v1.alloc (.cells #[.slice (some ⟨v.heap.size, 0, none⟩) 0 len] 40)).alloc (.cells #[.slice a len cap] 23)) := bw_alloc (bw_alloc J1 _) _
  have hsz : (((v1.alloc (.cells #[.slice (some ⟨v.heap.size, 0, none⟩) 0 len] 40)).alloc (.cells #[.slice a len cap] 23))).heap.size = v1.heap.size + 2 := by simp
  obtain ⟨W0, hW0⟩ : ∃ W0, ((v1.alloc (.cells #[.slice (some ⟨v.heap.size, 0, none⟩) 0 len] 40)).alloc (.cells #[.slice a len cap] 23)) = W0 := ⟨_, rfl⟩
  rw [hW0] at hrow L0 L1 hB0 hsz ⊢
  clear hW0 hown hgr
  have hst := edges_stops (n - 1) (by omega) (v1.heap.size + 1) w.heap.size a len cap pts W0 (by omega) (by omega) hlen L1.c1 (hP.below hB0)
  refine wpIn_rangeFunc_ownH rfl h1 (gf := 86) (lb := #[.pointer (some ⟨v1.heap.size + 1, 0, none⟩)]) rfl trivial (enters_of Try.func86 (by kernel_rfl) rfl)
    hst KB_t (KB_b (by omega) (by omega)) (Below.refl _ _) (fun _ => rfl)
    (fun pre W => ((∃ vv, Boxed W v1.heap.size 40 vv ∧ W.ownsRow w.heap.size 44 4 vv pre.length (segF pts pre) ∧ True) ∧ Lies (v1.heap.size + 1) #[.slice a len cap] 23 W) ∧ Below w.heap.size w W)
    (fun _ _ _ => False)
    (OwnFrom.and (OwnFrom.and (Own.from (holdsRow_own w.heap.size v1.heap.size 40 44 4 (fun pre => pre.length) (fun pre => segF pts pre) (fun _ _ => True)) _) (lies_from _ _ _ _)) (ownFrom_below (Nat.le_refl _) (by omega)))
    (fun c => ownFrom_pure _ _)
    ⟨⟨⟨_, L0, hrow, trivial⟩, L1⟩, hB0⟩
    (fun x a' W => ∃ Bx, v1.heap.size + 1 < Bx ∧ Lies Bx #[.int .i64 (ptAt pts x.1).1, .int .i64 (ptAt pts x.1).2, .int .i64 (ptAt pts (nxt pts x.1)).1, .int .i64 (ptAt pts (nxt pts x.1)).2] 44 W ∧ a' = { tmps := #[.slice a len cap, undef, .slice none 0 0, .pointer (some ⟨v1.heap.size, 0, none⟩), undef, .pointer (some ⟨Bx, 0, none⟩), .slice a len cap, .bool true, .bool false, .slice a len cap, .int .i64 (len : Int), .slice (some ⟨v.heap.size, 0, none⟩) 0 len, .slice a len cap, .func (.func 86) #[] #[.pointer (some ⟨v1.heap.size + 1, 0, none⟩)], .int .i64 (x.1 : Int), .agg #[.int .i64 (ptAt pts x.1).1, .int .i64 (ptAt pts x.1).2, .int .i64 (ptAt pts (nxt pts x.1)).1, .int .i64 (ptAt pts (nxt pts x.1)).2], undef, undef, undef, undef, undef], defers := [] })
    (fun x a' _ X Y row hs hg hr => by obtain ⟨Bx, e1, e2, e3⟩ := hs; exact ⟨Bx, e1, lies_own (β := Unit) Bx _ _ () X Y row e2 hg (fun r e => (hr r e).2), e3⟩)
    ?assign ?body ?done ?stop
  case assign =>
    rintro l pre x W K ⟨⟨⟨vv, M0, hr0, _⟩, M1⟩, hB1⟩ hK
    unfold encE
    gi_wp2
    exact hK _ _ ((KeepsOthers.alloc _ _).from _) ((KB.refl _ _ W).alloc hB1.size M1.lt _) ⟨⟨⟨vv, M0.alloc _, hr0.alloc _, trivial⟩, M1.alloc _⟩, hB1.alloc hB1.size _⟩ ⟨W.heap.size, M1.lt, Lies.new W _ _, rfl⟩
  case body =>
    rintro l pre x a' W hl2 ⟨r, hr⟩ ⟨⟨⟨vv, M0, hr0, _⟩, M1⟩, hB1⟩ ⟨Bx, hBx, bX, rfl⟩ hlt
    obtain ⟨k, hk⟩ := x
    dsimp only at *
    have c0 := M0.cell
    obtain ⟨cx0, cx1, cx2, cx3⟩ := bX.c4
    have h1' : 1 ≤ n - 1 - 1 := by omega
    have hzW := hB1.size
    gi_wp2_with (gi_at_builtin; refine wpListIn_append_own _ rfl _ _ 40 rfl w.heap.size 44 i0 _ 4 32 Try.underlying40 hi0 hz0 hz1 hz2 rfl (by decide) _ _ _ rfl (hr0.alloc _) ⟨W.heap.size, 0, none⟩ 1 1 (seg4 (ptAt pts k) (ptAt pts (nxt pts k))) rfl rfl (World.news_of_block (cs := #[.int .i64 (ptAt pts k).1, .int .i64 (ptAt pts k).2, .int .i64 (ptAt pts (nxt pts k)).1, .int .i64 (ptAt pts (nxt pts k)).2]) (t := 44) (fr := (0, 0)) (heap_alloc_new W _)) (by simp [seg4, Value.oneCell']) (by simp [maxLen]; omega) (by omega) (by simp; omega) ?_; intro v' w1 hown' hgrow _; obtain ⟨g', cap', rfl⟩ := ownsRow_succ hown'; obtain ⟨hv1, hv2, hr2, hk2, hb2⟩ := M0.appended (by decide) hr0 hB1.size (by omega) hown' hgrow; have hc1 := hv1.cell; have hf1 := hv1.frozen)
    have M1a : Boxed w1 (v1.heap.size + 1) 23 (.slice a len cap) := (Boxed.alloc M1 _).kept hgrow (Boxed.not_row M1 (by decide) hr0)
    have M1' : Lies (v1.heap.size + 1) #[.slice a len cap] 23 (w1.setCell ⟨v1.heap.size, 0, none⟩ (.slice (some ⟨g', 0, none⟩) (pre.length + 1) cap')) := Boxed.other M1a (by omega) _
    exact ⟨hk2.from _, ⟨hb2, M1'.trans M1.symm⟩, ⟨⟨_, hv2, by rw [segF_snoc, List.length_append, List.length_singleton]; exact hr2, trivial⟩, M1'⟩, hB1.trans hb2⟩
  case done =>
    rintro D zs W hD hzs ⟨⟨⟨vv, M0, hr0, _⟩, M1⟩, hB1⟩ hK
    have hr1 : W.ownsRow w.heap.size 44 4 vv len (segCells pts len) := by
      rw [hzs, segF_all, List.length_finRange, hl] at hr0; exact hr0
    clear hzs hr0
    have cR := M0.cell
    gi_wp2
    refine ⟨by simp, .inl ⟨_, _, rfl, run_takeDeferred hK, ?_⟩⟩
    exact ⟨vv, by simp [results, Try.results24, go_sem], .inr ⟨hok, vv, rfl, ownsRow_putObj hr1 _ hK rfl⟩, hB1.trans (belowK_b (w := w) (Nat.le_refl _) _ D _ _ (by omega) hK rfl rfl)⟩
  case stop =>
    rintro D c pre W hD hpre h hK
    exact h.elim
/-- LoopEdges. -/
theorem loopEdges_any (a : Option Addr) (len cap : Nat) (pts : List P2) (hlen : len ≤ 1048576) (w : World) (hP : Pts w.heap.size w a len pts) :
    Calls Try.prog 24 #[.slice a len cap] w fun e W' => EdgesAns w.heap.size pts len e W' ∧ Below w.heap.size w W' :=
  callsIn_wide.1 (loopEdges_in 10 (Nat.le_refl _) a len cap pts hlen w hP)
theorem sLoopEdges_any (a : Option Addr) (len cap : Nat) (pts : List P2) (hlen : len ≤ 1048576) (w : World) (hP : Pts w.heap.size w a len pts) :
    Calls Try.prog 34 #[.slice a len cap] w fun e W' => SEdgesAns w.heap.size pts len e W' ∧ Below w.heap.size w W' := by
  have hcall := sOk_any a len cap pts hlen w hP
  cases hok : okV pts
  · rw [hok] at hcall
    go_enter Try.func34, Try.ntmps34
    go_wp2_with (go_at_call 43; refine hcall.mono ?_; rintro e v ⟨rfl, J0⟩)
    go_ret
    exact ⟨⟨_, rfl, by rw [hok]; exact World.ownsRow_made v #[] 0 J0.size (by simp [maxLen]) rfl⟩, bw_alloc J0 _⟩
  · rw [hok] at hcall
    have h3 := ((okV_iff pts).1 hok).lo
    obtain ⟨hl, hP2⟩ := hP
    rcases hP2 with h0 | ⟨b, off, rfl, hb, hc⟩
    · omega
    go_enter Try.func34, Try.ntmps34
    go_wp2_with (go_at_call 43; refine hcall.mono ?_; rintro e v ⟨rfl, J0⟩)
    refine (sEdges_ok b off len cap pts v hl (by omega) hlen (by have := J0.size; omega) (fun j hj => ⟨(J0.cell (p := ⟨b, off + j * 2, none⟩) hb).trans (hc j hj).1, (J0.cell (p := ⟨b, off + j * 2 + 1, none⟩) hb).trans (hc j hj).2⟩)).mono ?_
    rintro e w1 ⟨vv, rfl, hown, J1⟩
    go_wp2_with fail
    go_ret
    exact ⟨⟨vv, rfl, by rw [hok]; exact own_base hown J0.size⟩, bw_trans J0 J1⟩
end Go.Proofs.Ythedlopfjlnogaa
