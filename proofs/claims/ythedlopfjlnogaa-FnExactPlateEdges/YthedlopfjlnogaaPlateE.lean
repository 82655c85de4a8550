/-
  OUR OWN TEXT. All edges of a plate, collected, by contract.
-/
import Derived.Test.YthedlopfjlnogaaRingE
import Derived.Test.YthedlopfjlnogaaLEdges
import Derived.Test.YthedlopfjlnogaaPlateC
namespace Go.Proofs.Ythedlopfjlnogaa
open Go.RowKit Go.Shelf Go.Sort
attribute [local go_sem] Oper.semAt_some

set_option maxRecDepth 100000 in
set_option maxHeartbeats 4000000 in
theorem appendSeq_in (n : Nat) (hn : 10 ≤ n) (B : Nat) (q : Option Addr) (rs : List RingT) (w : World) (hB : w.cell? ⟨B, 0, none⟩ = some (.pointer q)) (hR : RingN w.heap.size w q rs) (hes : (edgR rs).length ≤ 1000) :
    CallsIn Fence.wide n Try.prog 84 #[.slice none 0 0, .func (.func 85) #[] #[.pointer (some ⟨B, 0, none⟩)]] w fun e W' => ∃ v, e = .returned v ∧ W'.ownsRow w.heap.size 44 4 v (edgR rs).length (cellsS (edgR rs)) ∧ Below w.heap.size w W' := by
  obtain ⟨i0, hi0, hz0, hz1, hz2⟩ := info_parts Try.infoSeg
  have h1 : 1 ≤ n := by omega
  have hmx : Try.prog.follows .mixedOrders = true := by kernel_rfl
  have hseq := ringE_seq (n - 1) (by omega) B w.heap.size q rs w hB (Nat.le_refl _) hR
  refine callsIn_of_wp_marks Try.func84 rfl trivial ?_ rfl
  simp only [Try.ntmps84, List.size_toArray, List.length_cons, List.length_nil, Nat.reduceAdd, Nat.reduceSub, Array.replicate_succ, Array.replicate_zero, List.push_toArray, List.append_toArray, List.nil_append, List.cons_append]
  gi_wp2
  have M : Boxed (w.alloc (.cells #[.slice none 0 0] 40)) w.heap.size 40 (.slice none 0 0) := Lies.new w _ _
  have hB0 : Below w.heap.size w (w.alloc (.cells #[.slice none 0 0] 40)) := (by repeat (first | exact bw_refl _ | assumption | apply bw_drewN | apply bw_drew | apply bw_alloc | refine bw_set ?_ (by simp) _))
  have hsz : (w.alloc (.cells #[.slice none 0 0] 40)).heap.size = w.heap.size + 1 := by simp
  obtain ⟨W0, hW0⟩ : ∃ W0, w.alloc (.cells #[.slice none 0 0] 40) = W0 := ⟨_, rfl⟩
  rw [hW0] at M hB0 hsz ⊢
  clear hW0
  refine wpIn_rangeO rfl h1 (gf := 85) (lb := #[.pointer (some ⟨B, 0, none⟩)]) rfl trivial (enters_of Try.func85 (by kernel_rfl) rfl)
    hseq KT_t (KT_b (by omega)) hB0 (fun _ => rfl)
    (fun pre W => ((∃ vv, Boxed W w.heap.size 40 vv ∧ W.ownsRow w.heap.size 44 4 vv pre.length (cellsS pre) ∧ True)) ∧ Below w.heap.size w W)
    (OwnFrom.and (Own.from (holdsRow_own w.heap.size w.heap.size 40 44 4 (fun pre => pre.length) (fun pre => cellsS pre) (fun _ _ => True)) _) (ownFrom_below (Nat.le_refl _) (by omega)))
    ⟨⟨_, M, ⟨rfl, .inl ⟨rfl, rfl⟩⟩, trivial⟩, hB0⟩
    (fun x a' W => ∃ Bx, Lies Bx #[.int .i64 x.1.1, .int .i64 x.1.2, .int .i64 x.2.1, .int .i64 x.2.2] 44 W ∧ a' = { tmps := #[.slice none 0 0, .func (.func 85) #[] #[.pointer (some ⟨B, 0, none⟩)], .pointer (some ⟨w.heap.size, 0, none⟩), undef, .slice none 0 0, .pointer (some ⟨Bx, 0, none⟩), .func (.func 85) #[] #[.pointer (some ⟨B, 0, none⟩)], .agg #[.int .i64 x.1.1, .int .i64 x.1.2, .int .i64 x.2.1, .int .i64 x.2.2], undef, undef, undef, undef, undef], defers := [] })
    (fun x a' _ X Y row hs hg hr => by obtain ⟨Bx, e2, e3⟩ := hs; exact ⟨Bx, lies_own (β := Unit) Bx _ _ () X Y row e2 hg (fun r e => (hr r e).2), e3⟩)
    ?assign ?body ?done
  case assign =>
    rintro l pre x W K ⟨⟨vv, M0, hr0, _⟩, hB1⟩ hK
    unfold segE
    have hB3 : Below W.heap.size W (W.alloc (.cells #[.int .i64 x.1.1, .int .i64 x.1.2, .int .i64 x.2.1, .int .i64 x.2.2] 44)) := (by repeat (first | exact bw_refl _ | assumption | apply bw_drewN | apply bw_drew | apply bw_alloc | refine bw_set ?_ (by simp) _))
    gi_wp2
    exact hK _ _ ((KeepsOthers.alloc _ _).from _) (KT.of_below hB3 hB1.size) ⟨⟨vv, M0.alloc _, hr0.alloc _, trivial⟩, hB1.alloc hB1.size _⟩ ⟨W.heap.size, Lies.new W _ _, rfl⟩
  case body =>
    rintro l pre x a' W hl2 ⟨⟨vv, M0, hr0, _⟩, hB1⟩ ⟨Bx, bX, rfl⟩ hlt
    have c0 := M0.cell
    obtain ⟨cx0, cx1, cx2, cx3⟩ := bX.c4
    have h1' : 1 ≤ n - 1 - 1 := by omega
    have hzW := hB1.size
    gi_wp2_with (gi_at_builtin; refine wpListIn_append_own _ rfl _ _ 40 rfl w.heap.size 44 i0 _ 4 32 Try.underlying40 hi0 hz0 hz1 hz2 rfl (by decide) _ _ _ rfl (hr0.alloc _) ⟨W.heap.size, 0, none⟩ 1 1 (seg4 x.1 x.2) rfl rfl (World.news_of_block (cs := #[.int .i64 x.1.1, .int .i64 x.1.2, .int .i64 x.2.1, .int .i64 x.2.2]) (t := 44) (fr := (0, 0)) (heap_alloc_new W _)) (by simp [seg4, Value.oneCell']) (by simp [maxLen]; omega) (by omega) (by simp; omega) ?_; intro v' w1 hown' hgrow _; obtain ⟨g', cap', rfl⟩ := ownsRow_succ hown'; obtain ⟨hv1, hv2, hr2, hk2, hb2⟩ := M0.appended (by decide) hr0 hB1.size (by omega) hown' hgrow; have hc1 := hv1.cell; have hf1 := hv1.frozen)
    have hkt : KT w.heap.size W (w1.setCell ⟨w.heap.size, 0, none⟩ (.slice (some ⟨g', 0, none⟩) (pre.length + 1) cap')) := by
      refine ⟨hb2, fun k cs t ht h => ?_⟩
      have hk := (Array.getElem?_eq_some_iff.1 h).1
      have h2 : (W.alloc (.cells #[.int .i64 x.1.1, .int .i64 x.1.2, .int .i64 x.2.1, .int .i64 x.2.2] 44)).heap[k]? = some (.cells cs t (0, 0)) := (Below.heap_alloc W _ k hk).trans h
      have h3 : w1.heap[k]? = some (.cells cs t (0, 0)) := by
        refine (hgrow.block k (by simp; omega) (fun e => ?_)).trans h2
        rcases hr0.2 with ⟨e1, _⟩ | ⟨g0, c0', cur0, e1, _, hg0, _⟩
        · subst e1; cases e
        · subst e1
          have e' : k = g0 := Option.some.inj e
          rw [e', hg0] at h
          rcases ht with rfl | rfl <;> simp at h
      refine (Below.heap_setCell _ _ _ k (fun e => ?_)).trans h3
      have e' : k = w.heap.size := e
      rw [e', show W.heap[w.heap.size]? = _ from M0] at h
      rcases ht with rfl | rfl <;> simp at h
    exact ⟨hk2.from _, hkt, ⟨_, hv2, by rw [cellsS_append, List.length_append, List.length_singleton]; simpa [cellsS] using hr2, trivial⟩, hB1.trans hb2⟩
  case done =>
    rintro D W hD ⟨⟨vv, M0, hr0, _⟩, hB1⟩ hK
    have cR := M0.cell
    gi_wp2
    refine ⟨by simp, .inl ⟨_, _, rfl, run_takeDeferred hK, ?_⟩⟩
    exact ⟨vv, by simp [results, Try.results84, go_sem], vv, rfl, ownsRow_putObj hr0 _ hK rfl, hB1.trans (belowK_b (w := w) (Nat.le_refl _) _ D _ _ (by omega) hK rfl rfl)⟩
end Go.Proofs.Ythedlopfjlnogaa
