/-
  OUR OWN TEXT. LoopSize, by contract, at every points.
-/
import Derived.Test.YtempleochkohlaaOk
import Derived.Test.YtempleochkohlaaLoopX
namespace Go.Proofs.Ytempleochkohlaa
open Go.RowKit Go.Shelf Go.Sort
attribute [local go_sem] Oper.semAt_some

/-- A sum, in the order in which it comes. -/
def sumL (l : List Int) : Int := l.foldl (· + ·) 0
theorem sumL_snoc (l : List Int) (x : Int) : sumL (l ++ [x]) = sumL l + x := by unfold sumL; rw [List.foldl_append]; rfl
theorem sumL_range (f : Nat → Int) (n : Nat) : sumL ((List.range n).map f) = sumF f n := by
  induction n with
  | zero => rfl
  | succ n ih => rw [List.range_succ, List.map_append, List.map_cons, List.map_nil, sumL_snoc, ih]; rfl
theorem fin_map {β : Type} (n : Nat) (f : Nat → β) : ((List.finRange n).map fun k => f k.1) = (List.range n).map f := by
  apply List.ext_getElem
  · simp
  · intro i h1 h2; simp
theorem foldl_bd {l : List Int} {c : Int} (h : ∀ x ∈ l, -c ≤ x ∧ x ≤ c) : ∀ s : Int, s - c * l.length ≤ l.foldl (· + ·) s ∧ l.foldl (· + ·) s ≤ s + c * l.length := by
  induction l with
  | nil => intro s; simp
  | cons x l ih =>
    intro s
    have h1 := ih (fun y hy => h y (List.mem_cons_of_mem _ hy)) (s + x)
    have h2 := h x (List.mem_cons_self)
    have e : c * ((l.length + 1 : Nat) : Int) = c * l.length + c := by rw [Int.natCast_add]; grind
    rw [List.length_cons, e, List.foldl_cons]; omega
theorem sumL_bd {l : List Int} {c : Int} (h : ∀ x ∈ l, -c ≤ x ∧ x ≤ c) : -(c * l.length) ≤ sumL l ∧ sumL l ≤ c * l.length := by
  have := foldl_bd h 0
  unfold sumL; omega
theorem okV_seg {pts : List P2} (h : okV pts = true) {i : Nat} (hi : i < pts.length) : sgP (ptAt pts i) (ptAt pts (nxt pts i)) = true := ((okV_iff pts).1 h).seg i hi
theorem swE_bd {pts : List P2} (h : okV pts = true) {i : Nat} (hi : i < pts.length) : -162 ≤ swE pts i ∧ swE pts i ≤ 162 := by
  have hs := sgP_pt (okV_seg h hi)
  exact crs_bd (by decide) hs.1 hs.2
theorem swept_raw (a b : P2) (ha : ptB a.1 a.2 = true) (hb : ptB b.1 b.2 = true) (w : World) :
    Calls Try.prog 48 #[.agg #[.int .i64 0, .int .i64 0], .agg #[.int .i64 a.1, .int .i64 a.2], .agg #[.int .i64 b.1, .int .i64 b.2]] w fun e w' => e = .returned (.int .i64 (crs 0 0 a.1 a.2 b.1 b.2)) ∧ Below w.heap.size w w' := swept_any _ _ _ _ _ _ w (by decide) ha hb
set_option maxRecDepth 100000 in
set_option maxHeartbeats 4000000 in
theorem size_in (n : Nat) (hn : 10 ≤ n) (a : Option Addr) (len cap : Nat) (pts : List P2) (hlen : len ≤ 1048576) (w : World) (hP : Pts w.heap.size w a len pts) :
    CallsIn Fence.wide n Try.prog 32 #[.slice a len cap] w fun e W' => e = .returned (.int .i64 (sizeV pts)) ∧ Below w.heap.size w W' := by
  have h1 : 1 ≤ n := by omega
  have hl := hP.1
  have hmx : Try.prog.follows .mixedOrders = true := by kernel_rfl
  have hcall := ok_any a len cap pts hlen w hP
  cases hok : okV pts
  · rw [hok] at hcall
    have e1 : Hid (sizeV pts = 0) := by change _ = _; unfold sizeV; rw [hok]; rfl
    refine callsIn_wide.2 ?_
    clear hP hl
    go_enter Try.func32, Try.ntmps32
    go_wp2_with (go_at_call 19; refine hcall.mono ?_; rintro e v ⟨rfl, J0⟩)
    go_ret
    exact ⟨ret_int e1.out.symm, J0⟩
  rw [hok] at hcall
  have e1 : Hid (sizeV pts = sizeI pts) := by change _ = _; unfold sizeV; rw [hok]; rfl
  have h8 := ((okV_iff pts).1 hok).hi
  refine callsIn_of_wp_marks Try.func32 rfl trivial ?_ rfl
  simp only [Try.ntmps32, List.size_toArray, List.length_cons, List.length_nil, Nat.reduceAdd, Nat.reduceSub, Array.replicate_succ, Array.replicate_zero, List.push_toArray, List.append_toArray, List.nil_append, List.cons_append]
  gi_wp2_with (refine ⟨trivial, ?_⟩; gi_at_call 19; refine (callsIn_wide.2 hcall).mono ?_; rintro e v ⟨rfl, J0⟩)
  gi_wp2_with (refine ⟨trivial, ?_⟩; gi_at_call 52; refine (edges_in (n - 1) _ _ _ _).mono ?_; rintro e w' ⟨rfl, rfl⟩)
  have hP' := (hP.below J0).grow J0.size
  have L0 := (Lies.new' v (v.heap.size) (by simp) #[.int .i64 0] 3).alloc (.cells #[.slice a len cap] 30)
  have L1 := Lies.new' (v.alloc (.cells #[.int .i64 0] 3)) (v.heap.size + 1) (by simp) #[.slice a len cap] 30
  have hB0 : Below v.heap.size v ((v.alloc (.cells #[.int .i64 0] 3)).alloc (.cells #[.slice a len cap] 30)) := (by repeat (first | exact bw_refl _ | assumption | apply bw_drewN | apply bw_drew | apply bw_alloc | refine bw_set ?_ (by simp) _))
  have hsz : (((v.alloc (.cells #[.int .i64 0] 3)).alloc (.cells #[.slice a len cap] 30))).heap.size = v.heap.size + 2 := by simp
  obtain ⟨W0, hW0⟩ : ∃ W0, ((v.alloc (.cells #[.int .i64 0] 3)).alloc (.cells #[.slice a len cap] 30)) = W0 := ⟨_, rfl⟩
  rw [hW0] at L0 L1 hB0 hsz ⊢
  clear hW0
  have hst := edges_stops (n - 1) (by omega) (v.heap.size + 1) v.heap.size a len cap pts W0 (by omega) (by omega) hlen L1.c1 (hP'.below hB0)
  refine wpIn_rangeFunc_ownH rfl h1 (gf := 72) (lb := #[.pointer (some ⟨v.heap.size + 1, 0, none⟩)]) rfl trivial (enters_of Try.func72 (by kernel_rfl) rfl)
    hst KB_t (KB_b (by omega) (by omega)) (Below.refl _ _) (fun _ => rfl)
    (fun pre W => (Lies (v.heap.size) #[.int .i64 (sumL (pre.map fun k => swE pts k.1))] 3 W ∧ Lies (v.heap.size + 1) #[.slice a len cap] 30 W) ∧ Below v.heap.size v W)
    (fun _ _ _ => False)
    (OwnFrom.and (OwnFrom.and (Own.from (liesF_own _ _ _) _) (lies_from _ _ _ _)) (ownFrom_below (Nat.le_refl _) (by omega)))
    (fun c => ownFrom_pure _ _)
    ⟨⟨L0, L1⟩, hB0⟩
    (fun x a' W => ∃ Bx, v.heap.size + 1 < Bx ∧ Lies Bx #[.int .i64 (ptAt pts x.1).1, .int .i64 (ptAt pts x.1).2, .int .i64 (ptAt pts (nxt pts x.1)).1, .int .i64 (ptAt pts (nxt pts x.1)).2] 42 W ∧ a' = { tmps := #[.slice a len cap, undef, .int .i64 0, .pointer (some ⟨v.heap.size, 0, none⟩), undef, .pointer (some ⟨Bx, 0, none⟩), .slice a len cap, .bool true, .bool false, .slice a len cap, .func (.func 72) #[] #[.pointer (some ⟨v.heap.size + 1, 0, none⟩)], .int .i64 (x.1 : Int), .agg #[.int .i64 (ptAt pts x.1).1, .int .i64 (ptAt pts x.1).2, .int .i64 (ptAt pts (nxt pts x.1)).1, .int .i64 (ptAt pts (nxt pts x.1)).2], undef, undef, undef, undef, undef, undef, undef, undef, undef], defers := [] })
    (fun x a' _ X Y row hs hg hr => by obtain ⟨Bx, e1, e2, e3⟩ := hs; exact ⟨Bx, e1, lies_own (β := Unit) Bx _ _ () X Y row e2 hg (fun r e => (hr r e).2), e3⟩)
    ?assign ?body ?done ?stop
  case assign =>
    rintro l pre x W K ⟨⟨M0, M1⟩, hB1⟩ hK
    unfold encE
    gi_wp2
    exact hK _ _ ((KeepsOthers.alloc _ _).from _) ((KB.refl _ _ W).alloc hB1.size M1.lt _) ⟨⟨M0.alloc _, M1.alloc _⟩, hB1.alloc hB1.size _⟩ ⟨W.heap.size, M1.lt, Lies.new W _ _, rfl⟩
  case body =>
    rintro l pre x a' W hl2 ⟨r, hr⟩ ⟨⟨M0, M1⟩, hB1⟩ ⟨Bx, hBx, bX, rfl⟩ hlt
    obtain ⟨k, hk⟩ := x
    dsimp only at *
    have hpt := sgP_pt (okV_seg hok hk)
    have c0 := M0.c1
    have f0 := M0.f1
    obtain ⟨cx0, cx1, cx2, cx3⟩ := bX.c4
    have h1' : 1 ≤ n - 1 - 1 := by omega
    have bd := sumL_bd (l := pre.map fun k => swE pts k.1) (c := 162) (fun y hy => by obtain ⟨q, _, rfl⟩ := List.mem_map.1 hy; exact swE_bd hok q.2)
    rw [List.length_map] at bd
    have bk := swE_bd hok hk
    have hsn : Hid (sumL ((pre ++ [(⟨k, hk⟩ : Fin pts.length)]).map fun q => swE pts q.1) = sumL (pre.map fun q => swE pts q.1) + swE pts k) := by change _ = _; rw [List.map_append, List.map_cons, List.map_nil, sumL_snoc]
    have hsw : Hid (swE pts k = crs 0 0 (ptAt pts k).1 (ptAt pts k).2 (ptAt pts (nxt pts k)).1 (ptAt pts (nxt pts k)).2) := rfl
    rw [hsw.out] at bk hsn
    generalize hcr : crs 0 0 (ptAt pts k).1 (ptAt pts k).2 (ptAt pts (nxt pts k)).1 (ptAt pts (nxt pts k)).2 = z at bk hsn
    generalize hsu : sumL (pre.map fun k => swE pts k.1) = u at bd hsn c0 M0
    have hz : ∀ w, Calls Try.prog 48 #[.agg #[.int .i64 0, .int .i64 0], .agg #[.int .i64 (ptAt pts k).1, .int .i64 (ptAt pts k).2], .agg #[.int .i64 (ptAt pts (nxt pts k)).1, .int .i64 (ptAt pts (nxt pts k)).2]] w fun e w' => e = .returned (.int .i64 z) ∧ Below w.heap.size w w' := fun w => by have := swept_raw _ _ hpt.1 hpt.2 w; rwa [hcr] at this
    have hwr : IntKind.i64.wrap (u + z) = u + z := wrap_small (by omega) (by omega)
    gi_wp2
    refine wpIn_round_held (S := fun w' => w'.cell? ⟨Bx, 0, none⟩ = some (.int .i64 (ptAt pts k).1) ∧ w'.cell? ⟨Bx, 1, none⟩ = some (.int .i64 (ptAt pts k).2) ∧ w'.cell? ⟨Bx, 2, none⟩ = some (.int .i64 (ptAt pts (nxt pts k)).1) ∧ w'.cell? ⟨Bx, 3, none⟩ = some (.int .i64 (ptAt pts (nxt pts k)).2)) hmx (by kernel_rfl) (by rintro ⟨_, _, h⟩; exact h) ?_
    have hS : (fun w' : World => w'.cell? ⟨Bx, 0, none⟩ = some (.int .i64 (ptAt pts k).1) ∧ w'.cell? ⟨Bx, 1, none⟩ = some (.int .i64 (ptAt pts k).2) ∧ w'.cell? ⟨Bx, 2, none⟩ = some (.int .i64 (ptAt pts (nxt pts k)).1) ∧ w'.cell? ⟨Bx, 3, none⟩ = some (.int .i64 (ptAt pts (nxt pts k)).2)) W.drew := ⟨cx0, cx1, cx2, cx3⟩
    refine wpAnyH_take (i := 1) (v := .agg #[.int .i64 0, .int .i64 0]) rfl (by kernel_rfl) (by kernel_rfl) (by kernel_rfl) (fun _ _ _ h => h) (Or.inl ⟨by rfl, by rintro w' ⟨s1, s2, s3, s4⟩; go_simp⟩) hS ?_
    refine wpAnyH_take (i := 2) (v := .pointer (some ⟨Bx, 0, none⟩)) rfl (by kernel_rfl) (by kernel_rfl) (by kernel_rfl) (fun _ _ _ h => h) (Or.inl ⟨by rfl, by rintro w' ⟨s1, s2, s3, s4⟩; go_simp⟩) hS ?_
    refine wpAnyH_take (i := 3) (v := .agg #[.int .i64 (ptAt pts k).1, .int .i64 (ptAt pts k).2]) rfl (by kernel_rfl) (by kernel_rfl) (by kernel_rfl) (fun _ _ _ h => h) (Or.inl ⟨by rfl, by rintro w' ⟨s1, s2, s3, s4⟩; go_simp⟩) hS ?_
    refine wpAnyH_take (i := 4) (v := .pointer (some ⟨Bx, 2, none⟩)) rfl (by kernel_rfl) (by kernel_rfl) (by kernel_rfl) (fun _ _ _ h => h) (Or.inl ⟨by rfl, by rintro w' ⟨s1, s2, s3, s4⟩; go_simp⟩) hS ?_
    refine wpAnyH_take (i := 5) (v := .agg #[.int .i64 (ptAt pts (nxt pts k)).1, .int .i64 (ptAt pts (nxt pts k)).2]) rfl (by kernel_rfl) (by kernel_rfl) (by kernel_rfl) (fun _ _ _ h => h) (Or.inl ⟨by rfl, by rintro w' ⟨s1, s2, s3, s4⟩; go_simp⟩) hS ?_
    refine wpAnyH_all (rs := [0, 6]) (by kernel_rfl) (by simp) ?_
    intro i hi
    have hi' : i = 0 ∨ i = 6 := by simpa using hi
    rcases hi' with rfl | rfl
    · refine YieldsIf.wpOp (S := fun w' => w' = W.drew) (v := .int .i64 u) rfl (Or.inl ⟨by rfl, by rintro w' rfl; go_simp⟩) rfl ⟨hS, ?_⟩
      refine wpAnyH_all (rs := [6]) (by kernel_rfl) (by simp) ?_
      intro i hi
      obtain rfl : i = 6 := by simpa using hi
      refine wpOp_now rfl (by rfl) ?_
      go_simp
      refine (hz _).mono ?_
      rintro e w2 ⟨rfl, J⟩
      have c0' := (M0.drew.below J).c1
      have f0' := (M0.drew.below J).f1
      have hS2 : (fun w' : World => w'.cell? ⟨Bx, 0, none⟩ = some (.int .i64 (ptAt pts k).1) ∧ w'.cell? ⟨Bx, 1, none⟩ = some (.int .i64 (ptAt pts k).2) ∧ w'.cell? ⟨Bx, 2, none⟩ = some (.int .i64 (ptAt pts (nxt pts k)).1) ∧ w'.cell? ⟨Bx, 3, none⟩ = some (.int .i64 (ptAt pts (nxt pts k)).2)) w2 := (bX.drew.below J).c4
      refine ⟨hS2, ?_⟩
      refine wpAnyH_take (i := 7) (v := .int .i64 (u + z)) rfl (by kernel_rfl) (by kernel_rfl) (by kernel_rfl) (fun _ _ _ h => h) (Or.inl ⟨by rfl, by rintro w' ⟨s1, s2, s3, s4⟩; go_simp⟩) hS2 ?_
      refine wpAnyH_all (rs := [8]) (by kernel_rfl) (by simp) ?_
      intro i hi
      obtain rfl : i = 8 := by simpa using hi
      refine wpOp_now rfl (by rfl) ?_
      go_simp
      refine wpAnyH_done (by kernel_rfl) ?_ _
      exact ⟨(((KeepsOthers.drew _).trans (KeepsOthers.of_below J)).trans (KeepsOthers.setCell _ _ _)).from _, ((KB.refl _ _ _).drew.trans (KB.of_below J hB1.drew.size M1.drew.lt)).setCell (by simp) (by simp) _, ⟨hsn.out ▸ (M0.drew.below J).set1 _, (M1.drew.below J).other (by omega) _⟩, bw_set (bw_trans hB1.drew J) (by simp) _⟩
    · refine wpOp_now rfl (by rfl) ?_
      go_simp
      refine (hz _).mono ?_
      rintro e w2 ⟨rfl, J⟩
      have c0' := (M0.drew.below J).c1
      have f0' := (M0.drew.below J).f1
      have hS2 : (fun w' : World => w'.cell? ⟨Bx, 0, none⟩ = some (.int .i64 (ptAt pts k).1) ∧ w'.cell? ⟨Bx, 1, none⟩ = some (.int .i64 (ptAt pts k).2) ∧ w'.cell? ⟨Bx, 2, none⟩ = some (.int .i64 (ptAt pts (nxt pts k)).1) ∧ w'.cell? ⟨Bx, 3, none⟩ = some (.int .i64 (ptAt pts (nxt pts k)).2)) w2 := (bX.drew.below J).c4
      refine ⟨hS2, ?_⟩
      refine wpAnyH_all (rs := [0]) (by kernel_rfl) (by simp) ?_
      intro i hi
      obtain rfl : i = 0 := by simpa using hi
      refine YieldsIf.wpOp (S := fun w' => w' = w2) (v := .int .i64 u) rfl (Or.inl ⟨by rfl, by rintro w' rfl; go_simp⟩) rfl ⟨hS2, ?_⟩
      refine wpAnyH_take (i := 7) (v := .int .i64 (u + z)) rfl (by kernel_rfl) (by kernel_rfl) (by kernel_rfl) (fun _ _ _ h => h) (Or.inl ⟨by rfl, by rintro w' ⟨s1, s2, s3, s4⟩; go_simp⟩) hS2 ?_
      refine wpAnyH_all (rs := [8]) (by kernel_rfl) (by simp) ?_
      intro i hi
      obtain rfl : i = 8 := by simpa using hi
      refine wpOp_now rfl (by rfl) ?_
      go_simp
      refine wpAnyH_done (by kernel_rfl) ?_ _
      exact ⟨(((KeepsOthers.drew _).trans (KeepsOthers.of_below J)).trans (KeepsOthers.setCell _ _ _)).from _, ((KB.refl _ _ _).drew.trans (KB.of_below J hB1.drew.size M1.drew.lt)).setCell (by simp) (by simp) _, ⟨hsn.out ▸ (M0.drew.below J).set1 _, (M1.drew.below J).other (by omega) _⟩, bw_set (bw_trans hB1.drew J) (by simp) _⟩
  case done =>
    rintro D zs W hD rfl ⟨⟨M0, M1⟩, hB1⟩ hK
    obtain ⟨u, hu⟩ : ∃ u, sumL ((List.finRange pts.length).map fun k => swE pts k.1) = u := ⟨_, rfl⟩
    rw [hu] at M0
    have HU : Hid (sizeV pts = u) := by change _ = _; rw [e1.out, ← hu, fin_map, sumL_range]; rfl
    clear hu
    have cR := M0.c1
    gi_wp2
    refine ⟨by simp, .inl ⟨_, _, rfl, run_takeDeferred hK, ?_⟩⟩
    refine ⟨.int .i64 u, by simp [results, Try.results32, go_sem], ?_, (bw_trans J0 hB1).trans (belowK_b (w := w) (Nat.le_refl _) _ D _ _ (by have := J0.size; omega) hK rfl rfl)⟩
    rw [HU.out]
  case stop =>
    rintro D c pre W hD hpre h hK
    exact h.elim
/-- LoopSize. -/
theorem size_any (a : Option Addr) (len cap : Nat) (pts : List P2) (hlen : len ≤ 1048576) (w : World) (hP : Pts w.heap.size w a len pts) :
    Calls Try.prog 32 #[.slice a len cap] w fun e W' => e = .returned (.int .i64 (sizeV pts)) ∧ Below w.heap.size w W' :=
  callsIn_wide.1 (size_in 10 (Nat.le_refl _) a len cap pts hlen w hP)
end Go.Proofs.Ytempleochkohlaa
