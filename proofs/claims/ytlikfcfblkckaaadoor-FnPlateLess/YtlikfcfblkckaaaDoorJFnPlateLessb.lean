/-
  OUR OWN TEXT. The law FnPlateLess, for every input: the call returns true, and each argument reads as it did. Texts of ours, joined, so that the claim keeps to its number of files. Conditions: none but the row's own.
-/
import Derived.Test.YtlikfcfblkckaaaDoorJFnPlateLessa
import Derived.Test.YtlikfcfblkckaaaDoorGeoApart
import Derived.Deep.RegionHeld3
import Derived.Test.YtlikfcfblkckaaaDoorPlateI
import Derived.Test.YtlikfcfblkckaaaDoorWhere
import Derived.Test.YtlikfcfblkckaaaDoorBoard
import Derived.Test.YtlikfcfblkckaaaDoorBoxes
import Derived.Test.YtlikfcfblkckaaaDoorOk
import Derived.Test.YtlikfcfblkckaaaDoorSEdge
import Derived.Test.YtlikfcfblkckaaaDoorSOk
import Derived.Test.YtlikfcfblkckaaaDoorSPlateOk
import Derived.Deep.DeepAppendWide
import Derived.Test.YtlikfcfblkckaaaDoorDrawPlate
import Derived.Test.YtlikfcfblkckaaaDoorCards
import Derived.Test.YtlikfcfblkckaaaDoorTie
import Derived.ProofKit
import Derived.OpenShut
import Derived.LaidMore
import Derived.MakeChecks
import Derived.Stop.Joined
import Derived.Stop.LaidErr
import Derived.WalkSmall
import Derived.ChangeOld
import Derived.Lib.SmallJoins
namespace Go.Proofs.YtlikfcfblkckaaaDoor
open Go.RowKit Go.Shelf Go.Sort
attribute [local go_sem] Oper.semAt_some

theorem Tryd.infoFrac : (Tryd.prog.info? 32).map (fun i => (i.zero, i.size, i.bytes)) = some (some (.agg #[.int .i64 0, .int .i64 0]), 2, 16) := by kernel_rfl
/-- How far a point is from a segment. -/
def farS (p : P2) (s : P2 × P2) : Int × Int := farV s.1.1 s.1.2 s.2.1 s.2.2 p.1 p.2
def frCells (fs : List (Int × Int)) : List Value := fs.flatMap fun f => [.int .i64 f.1, .int .i64 f.2]
theorem frCells_snoc (fs : List (Int × Int)) (f : Int × Int) : frCells (fs ++ [f]) = frCells fs ++ [.int .i64 f.1, .int .i64 f.2] := by simp [frCells]
set_option maxRecDepth 100000 in
set_option maxHeartbeats 4000000 in
theorem fars_in (n : Nat) (hn : 12 ≤ n) (b : Nat) (rs : List RingT) (p : P2) (ad : Addr) (w : World) (h0 : Sent ad w) (hR : RingN w.heap.size w (some ⟨b, 0, none⟩) rs) (hes : (edgR rs).length ≤ 1000) :
    CallsIn Fence.wide n Tryd.prog 45 #[.pointer (some ⟨b, 0, none⟩), .agg #[.int .i64 p.1, .int .i64 p.2]] w fun e W' => ∃ v, e = .returned v ∧ W'.ownsRow w.heap.size 32 2 v (edgR rs).length (frCells ((edgR rs).map (farS p))) ∧ Below w.heap.size w W' := by
  obtain ⟨i0, hi0, hz0, hz1, hz2⟩ := info_parts Tryd.infoFrac
  have h1 : 1 ≤ n := by omega
  have hmx : Tryd.prog.follows .mixedOrders = true := by kernel_rfl
  refine callsIn_of_wp_marks Tryd.func45 rfl trivial ?_ rfl
  simp only [Tryd.ntmps45, List.size_toArray, List.length_cons, List.length_nil, Nat.reduceAdd, Nat.reduceSub, Array.replicate_succ, Array.replicate_zero, List.push_toArray, List.append_toArray, List.nil_append, List.cons_append]
  gi_wp2_with (refine ⟨trivial, ?_⟩; gi_at_call 64; refine (ringEdges_in (n - 1) _ _).mono ?_; rintro e w' ⟨rfl, rfl⟩)
  have Q0 := ((Lies.new' w w.heap.size rfl #[.int .i64 p.1, .int .i64 p.2] 28).alloc (.cells #[.slice none 0 0] 93)).alloc (.cells #[.pointer (some ⟨b, 0, none⟩)] 83)
  have M := (Lies.new' (w.alloc (.cells #[.int .i64 p.1, .int .i64 p.2] 28)) (w.heap.size + 1) (by simp) #[.slice none 0 0] 93).alloc (.cells #[.pointer (some ⟨b, 0, none⟩)] 83)
  have L1 := Lies.new' ((w.alloc (.cells #[.int .i64 p.1, .int .i64 p.2] 28)).alloc (.cells #[.slice none 0 0] 93)) (w.heap.size + 1 + 1) (by simp) #[.pointer (some ⟨b, 0, none⟩)] 83
  have hB0 : Below w.heap.size w (((w.alloc (.cells #[.int .i64 p.1, .int .i64 p.2] 28)).alloc (.cells #[.slice none 0 0] 93)).alloc (.cells #[.pointer (some ⟨b, 0, none⟩)] 83)) := (by repeat (first | exact bw_refl _ | assumption | apply bw_drewN | apply bw_drew | apply bw_alloc | refine bw_set ?_ (by simp) _))
  have hsz : (((w.alloc (.cells #[.int .i64 p.1, .int .i64 p.2] 28)).alloc (.cells #[.slice none 0 0] 93)).alloc (.cells #[.pointer (some ⟨b, 0, none⟩)] 83)).heap.size = w.heap.size + 3 := by simp
  obtain ⟨W0, hW0⟩ : ∃ W0, ((w.alloc (.cells #[.int .i64 p.1, .int .i64 p.2] 28)).alloc (.cells #[.slice none 0 0] 93)).alloc (.cells #[.pointer (some ⟨b, 0, none⟩)] 83) = W0 := ⟨_, rfl⟩
  rw [hW0] at Q0 M L1 hB0 hsz ⊢
  clear hW0
  have hseq := ringE_seq (n - 1) (by omega) (w.heap.size + 1 + 1) w.heap.size (some ⟨b, 0, none⟩) rs W0 L1.c1 (by omega) (hR.keep hB0)
  refine wpIn_rangeO rfl h1 (gf := 76) (lb := #[.pointer (some ⟨w.heap.size + 1 + 1, 0, none⟩)]) rfl trivial (enters_of Tryd.func76 (by kernel_rfl) rfl)
    hseq KT_t (KT_b (by omega)) (Below.refl _ _) (fun _ => rfl)
    (fun pre W => ((∃ vv, Boxed W (w.heap.size + 1) 93 vv ∧ W.ownsRow w.heap.size 32 2 vv pre.length (frCells (pre.map (farS p))) ∧ True) ∧ Lies w.heap.size #[.int .i64 p.1, .int .i64 p.2] 28 W) ∧ Below w.heap.size w W)
    (OwnFrom.and (OwnFrom.and (Own.from (holdsRow_own w.heap.size (w.heap.size + 1) 93 32 2 (fun pre : List (P2 × P2) => pre.length) (fun pre => frCells (pre.map (farS p))) (fun _ _ => True)) _) (lies_from _ _ _ _)) (ownFrom_below (Nat.le_refl _) (by omega)))
    ⟨⟨⟨_, M, ⟨rfl, .inl ⟨rfl, rfl⟩⟩, trivial⟩, Q0⟩, hB0⟩
    (fun x a' W => ∃ Bx, w.heap.size + 1 < Bx ∧ Lies Bx #[.int .i64 x.1.1, .int .i64 x.1.2, .int .i64 x.2.1, .int .i64 x.2.2] 98 W ∧ a' = { tmps := #[.pointer (some ⟨b, 0, none⟩), .agg #[.int .i64 p.1, .int .i64 p.2], undef, .pointer (some ⟨w.heap.size, 0, none⟩), .slice none 0 0, .pointer (some ⟨w.heap.size + 1, 0, none⟩), .pointer (some ⟨Bx, 0, none⟩), .pointer (some ⟨b, 0, none⟩), .pointer (some ⟨b, 0, none⟩), .pointer (some ⟨b, 0, none⟩), .func (.func 76) #[] #[.pointer (some ⟨w.heap.size + 1 + 1, 0, none⟩)], .agg #[.int .i64 x.1.1, .int .i64 x.1.2, .int .i64 x.2.1, .int .i64 x.2.2], undef, undef, undef, undef, undef, undef, undef], defers := [] })
    (fun x a' _ X Y row hs hg hr => by obtain ⟨Bx, e1, e2, e3⟩ := hs; exact ⟨Bx, e1, lies_own (β := Unit) Bx _ _ () X Y row e2 hg (fun r e => (hr r e).2), e3⟩)
    ?assign ?body ?done
  case assign =>
    rintro l pre x W K ⟨⟨⟨vv, M0, hr0, _⟩, A0⟩, hB1⟩ hK
    unfold segE
    have zA := A0.lt
    have zM : w.heap.size + 1 < W.heap.size := (Array.getElem?_eq_some_iff.1 (show W.heap[w.heap.size + 1]? = _ from M0)).1
    have hB3 : Below W.heap.size W (W.alloc (.cells #[.int .i64 x.1.1, .int .i64 x.1.2, .int .i64 x.2.1, .int .i64 x.2.2] 98)) := (by repeat (first | exact bw_refl _ | assumption | apply bw_drewN | apply bw_drew | apply bw_alloc | refine bw_set ?_ (by simp) _))
    gi_wp2
    exact hK _ _ ((KeepsOthers.alloc _ _).from _) (KT.of_below hB3 hB1.size) ⟨⟨⟨vv, M0.alloc _, hr0.alloc _, trivial⟩, A0.alloc _⟩, hB1.alloc hB1.size _⟩ ⟨W.heap.size, zM, Lies.new W _ _, rfl⟩
  case body =>
    rintro l pre x a' W hl2 ⟨⟨⟨vv, M0, hr0, _⟩, A0⟩, hB1⟩ ⟨Bx, hBx, bX, rfl⟩ hlt
    have c0 := M0.cell
    obtain ⟨cx0, cx1, cx2, cx3⟩ := bX.c4
    obtain ⟨a0, a1⟩ := blk_2 A0
    have hzW := hB1.size
    have hX := segFar_any x.1.1 x.1.2 x.2.1 x.2.2 p.1 p.2 ad W.drew (h0.below hB1.drew)
    obtain ⟨f, hf⟩ : ∃ f, farS p x = f := ⟨_, rfl⟩
    rw [show farV x.1.1 x.1.2 x.2.1 x.2.2 p.1 p.2 = f from hf] at hX
    have Hf : Hid (farS p x = f) := hf
    clear hf
    have hmax : pre.length + 1 ≤ maxLen := by simp [maxLen]; omega
    have zA := A0.lt
    have zBx := bX.lt
    have zM : w.heap.size + 1 < W.heap.size := (Array.getElem?_eq_some_iff.1 (show W.heap[w.heap.size + 1]? = _ from M0)).1
    gi_wp2
    refine wpIn_round_held (S := (fun w' : World => (w'.cell? ⟨Bx, 0, none⟩ = some (.int .i64 x.1.1) ∧ w'.cell? ⟨Bx, 1, none⟩ = some (.int .i64 x.1.2) ∧ w'.cell? ⟨Bx, 2, none⟩ = some (.int .i64 x.2.1) ∧ w'.cell? ⟨Bx, 3, none⟩ = some (.int .i64 x.2.2)) ∧ w'.cell? ⟨w.heap.size, 0, none⟩ = some (.int .i64 p.1) ∧ w'.cell? ⟨w.heap.size, 1, none⟩ = some (.int .i64 p.2))) hmx (by kernel_rfl) (by rintro ⟨_, _, h⟩; exact h) ?_
    have hS0 : (fun w' : World => (w'.cell? ⟨Bx, 0, none⟩ = some (.int .i64 x.1.1) ∧ w'.cell? ⟨Bx, 1, none⟩ = some (.int .i64 x.1.2) ∧ w'.cell? ⟨Bx, 2, none⟩ = some (.int .i64 x.2.1) ∧ w'.cell? ⟨Bx, 3, none⟩ = some (.int .i64 x.2.2)) ∧ w'.cell? ⟨w.heap.size, 0, none⟩ = some (.int .i64 p.1) ∧ w'.cell? ⟨w.heap.size, 1, none⟩ = some (.int .i64 p.2)) W.drew := ⟨⟨cx0, cx1, cx2, cx3⟩, a0, a1⟩
    refine wpAnyH_take (i := 1) (v := .agg #[.int .i64 x.1.1, .int .i64 x.1.2, .int .i64 x.2.1, .int .i64 x.2.2]) rfl (by kernel_rfl) (by kernel_rfl) (by kernel_rfl) (fun _ _ _ h => h) (Or.inl ⟨by rfl, by rintro w' ⟨⟨s1, s2, s3, s4⟩, s5, s6⟩; go_simp⟩) hS0 ?_
    refine wpAnyH_take (i := 2) (v := .agg #[.int .i64 p.1, .int .i64 p.2]) rfl (by kernel_rfl) (by kernel_rfl) (by kernel_rfl) (fun _ _ _ h => h) (Or.inl ⟨by rfl, by rintro w' ⟨⟨s1, s2, s3, s4⟩, s5, s6⟩; go_simp⟩) hS0 ?_
    refine wpAnyH_all (rs := [0, 3]) (by kernel_rfl) (by simp) ?_
    intro i hi
    have hi' : i = 0 ∨ i = 3 := by simpa using hi
    clear hi
    rcases hi' with rfl | rfl
    · skip
      refine YieldsIf.wpOp (S := fun w' => w' = W.drew) (v := vv) rfl (Or.inl ⟨by rfl, by rintro w' rfl; go_simp⟩) rfl ⟨hS0, ?_⟩
      refine wpAnyH_all (rs := [3]) (by kernel_rfl) (by simp) ?_
      intro i hi
      obtain rfl : i = 3 := by simpa using hi
      refine wpOp_now rfl (by rfl) ?_
      go_simp
      refine hX.mono ?_
      rintro e w3 ⟨rfl, J3⟩
      have M3 : Boxed w3 (w.heap.size + 1) 93 vv := (J3.block (w.heap.size + 1) zM).trans M0
      have hr3 : w3.ownsRow w.heap.size 32 2 vv pre.length (frCells (pre.map (farS p))) := (hr0.kept (w' := W.drew) (row := none) ⟨rfl, rfl, rfl, Nat.le_refl _, fun _ _ _ => rfl⟩ (Classical.em _)).kept (w' := w3) (row := none) ⟨J3.os, J3.tape, J3.output, J3.size, fun j hj _ => J3.block j hj⟩ (Classical.em _)
      have A3 : Lies w.heap.size #[.int .i64 p.1, .int .i64 p.2] 28 w3 := (J3.block w.heap.size zA).trans A0
      have b3 : Lies Bx #[.int .i64 x.1.1, .int .i64 x.1.2, .int .i64 x.2.1, .int .i64 x.2.2] 98 w3 := (J3.block Bx zBx).trans bX
      have z3 : W.heap.size ≤ w3.heap.size := J3.size
      have hS3 : (fun w' : World => (w'.cell? ⟨Bx, 0, none⟩ = some (.int .i64 x.1.1) ∧ w'.cell? ⟨Bx, 1, none⟩ = some (.int .i64 x.1.2) ∧ w'.cell? ⟨Bx, 2, none⟩ = some (.int .i64 x.2.1) ∧ w'.cell? ⟨Bx, 3, none⟩ = some (.int .i64 x.2.2)) ∧ w'.cell? ⟨w.heap.size, 0, none⟩ = some (.int .i64 p.1) ∧ w'.cell? ⟨w.heap.size, 1, none⟩ = some (.int .i64 p.2)) w3 := ⟨b3.c4, blk_2 A3⟩
      have cm3 := M3.cell
      refine ⟨hS3, ?_⟩
      refine wpAnyH_all (rs := [4]) (by kernel_rfl) (by simp) ?_
      intro i hi
      obtain rfl : i = 4 := by simpa using hi
      have B34 : Below w3.heap.size w3 (w3.alloc (.cells #[.int .i64 f.1, .int .i64 f.2] 32)) := (by repeat (first | exact bw_refl _ | assumption | apply bw_drewN | apply bw_drew | apply bw_alloc | refine bw_set ?_ (by simp) _))
      have hS4 : (fun w' : World => (w'.cell? ⟨Bx, 0, none⟩ = some (.int .i64 x.1.1) ∧ w'.cell? ⟨Bx, 1, none⟩ = some (.int .i64 x.1.2) ∧ w'.cell? ⟨Bx, 2, none⟩ = some (.int .i64 x.2.1) ∧ w'.cell? ⟨Bx, 3, none⟩ = some (.int .i64 x.2.2)) ∧ w'.cell? ⟨w.heap.size, 0, none⟩ = some (.int .i64 p.1) ∧ w'.cell? ⟨w.heap.size, 1, none⟩ = some (.int .i64 p.2)) (w3.alloc (.cells #[.int .i64 f.1, .int .i64 f.2] 32)) := ⟨(b3.below B34).c4, blk_2 (A3.below B34)⟩
      refine wpOp_now rfl (by rfl) ?_
      go_simp
      refine wpAnyH_all (rs := [5]) (by kernel_rfl) (by simp) ?_
      intro i hi
      obtain rfl : i = 5 := by simpa using hi
      refine wpOp_now rfl (by rfl) ?_
      refine wp_append_lies _ _ _ _ (by rfl) w.heap.size 32 i0 _ 2 16 Tryd.underlying93 hi0 hz0 hz1 hz2 rfl (by omega) _ pre.length _ (by rfl) (hr3.alloc _) ⟨w3.heap.size, 0, none⟩ 1 1 [.int .i64 f.1, .int .i64 f.2] (by rfl) (by rfl) (World.news_of_block (cs := #[.int .i64 f.1, .int .i64 f.2]) (t := 32) (fr := (0, 0)) (heap_alloc_new w3 _)) (by simp [Value.oneCell']) (by omega) hmax (by omega) (by simp; omega) (w3.heap.size + 1) (by simp) ?_
      intro gg cg w5 hown5 hgr5 hat5 hlt5
      obtain ⟨hv1, hv2, hr2, hk2, hb2⟩ := M3.appended (by decide) hr3 (by omega) (by omega) hown5 hgr5
      have hne : ∀ (k : Nat) (cs : Array Value) (t : TypeId), t ≠ 32 → w3.heap[k]? = some (.cells cs t (0, 0)) → w5.heap[k]? = some (.cells cs t (0, 0)) := fun k cs t ht h => by
        refine (hgr5.block k (by have := (Array.getElem?_eq_some_iff.1 h).1; simp; omega) (fun e => ?_)).trans ((B34.block k (Array.getElem?_eq_some_iff.1 h).1).trans h)
        rcases hr3.2 with ⟨e1, _⟩ | ⟨g0, c0', cur0, e1, _, hg0, _⟩
        · subst e1; cases e
        · subst e1
          have e' : k = g0 := Option.some.inj e
          rw [e', hg0] at h; cases h; exact ht rfl
      have A5 : Lies w.heap.size #[.int .i64 p.1, .int .i64 p.2] 28 w5 := hne _ _ _ (by decide) A3
      have b5 : Lies Bx #[.int .i64 x.1.1, .int .i64 x.1.2, .int .i64 x.2.1, .int .i64 x.2.2] 98 w5 := hne _ _ _ (by decide) b3
      have hS5 : (fun w' : World => (w'.cell? ⟨Bx, 0, none⟩ = some (.int .i64 x.1.1) ∧ w'.cell? ⟨Bx, 1, none⟩ = some (.int .i64 x.1.2) ∧ w'.cell? ⟨Bx, 2, none⟩ = some (.int .i64 x.2.1) ∧ w'.cell? ⟨Bx, 3, none⟩ = some (.int .i64 x.2.2)) ∧ w'.cell? ⟨w.heap.size, 0, none⟩ = some (.int .i64 p.1) ∧ w'.cell? ⟨w.heap.size, 1, none⟩ = some (.int .i64 p.2)) w5 := ⟨b5.c4, blk_2 A5⟩
      refine ⟨hS5, ?_⟩
      simp only [Act.put, List.setIfInBounds_toArray]
      refine wpAnyH_all (rs := [6]) (by kernel_rfl) (by simp) ?_
      intro i hi
      obtain rfl : i = 6 := by simpa using hi
      have hc1 := hv1.cell
      have hf1 := hv1.frozen
      refine wpOp_now rfl (by rfl) ?_
      go_simp
      refine wpAnyH_done (by kernel_rfl) ?_ _
      have BWX : Below w.heap.size W (w5.setCell ⟨w.heap.size + 1, 0, none⟩ (.slice (some ⟨gg, 0, none⟩) (pre.length + 1) cg)) := ((Below.refl _ W).drew.trans (J3.mono hzW)).trans hb2
      refine ⟨(((KeepsOthers.drew _).trans (KeepsOthers.of_below J3)).trans hk2).from _, ⟨BWX, fun k cs t ht h => ?_⟩, ⟨⟨_, hv2, ?_, trivial⟩, ?_⟩, hB1.trans BWX⟩
      · have h3 : w3.heap[k]? = some (.cells cs t (0, 0)) := (J3.block k (Array.getElem?_eq_some_iff.1 h).1).trans h
        refine (Below.heap_setCell _ _ _ k (fun e => ?_)).trans (hne k cs t (by rcases ht with rfl | rfl <;> decide) h3)
        have e' : k = w.heap.size + 1 := e
        rw [e', show W.heap[w.heap.size + 1]? = _ from M0] at h
        rcases ht with rfl | rfl <;> simp at h
      · rw [List.map_append, List.map_cons, List.map_nil, Hf.out, frCells_snoc, List.length_append, List.length_singleton]; exact hr2
      · exact (Below.heap_setCell _ _ _ w.heap.size (fun e => by have e' : w.heap.size = w.heap.size + 1 := e; omega)).trans A5
    · skip
      refine wpOp_now rfl (by rfl) ?_
      go_simp
      refine hX.mono ?_
      rintro e w3 ⟨rfl, J3⟩
      have M3 : Boxed w3 (w.heap.size + 1) 93 vv := (J3.block (w.heap.size + 1) zM).trans M0
      have hr3 : w3.ownsRow w.heap.size 32 2 vv pre.length (frCells (pre.map (farS p))) := (hr0.kept (w' := W.drew) (row := none) ⟨rfl, rfl, rfl, Nat.le_refl _, fun _ _ _ => rfl⟩ (Classical.em _)).kept (w' := w3) (row := none) ⟨J3.os, J3.tape, J3.output, J3.size, fun j hj _ => J3.block j hj⟩ (Classical.em _)
      have A3 : Lies w.heap.size #[.int .i64 p.1, .int .i64 p.2] 28 w3 := (J3.block w.heap.size zA).trans A0
      have b3 : Lies Bx #[.int .i64 x.1.1, .int .i64 x.1.2, .int .i64 x.2.1, .int .i64 x.2.2] 98 w3 := (J3.block Bx zBx).trans bX
      have z3 : W.heap.size ≤ w3.heap.size := J3.size
      have hS3 : (fun w' : World => (w'.cell? ⟨Bx, 0, none⟩ = some (.int .i64 x.1.1) ∧ w'.cell? ⟨Bx, 1, none⟩ = some (.int .i64 x.1.2) ∧ w'.cell? ⟨Bx, 2, none⟩ = some (.int .i64 x.2.1) ∧ w'.cell? ⟨Bx, 3, none⟩ = some (.int .i64 x.2.2)) ∧ w'.cell? ⟨w.heap.size, 0, none⟩ = some (.int .i64 p.1) ∧ w'.cell? ⟨w.heap.size, 1, none⟩ = some (.int .i64 p.2)) w3 := ⟨b3.c4, blk_2 A3⟩
      have cm3 := M3.cell
      refine ⟨hS3, ?_⟩
      refine wpAnyH_all (rs := [0, 4]) (by kernel_rfl) (by simp) ?_
      intro i hi
      have hi' : i = 0 ∨ i = 4 := by simpa using hi
      clear hi
      rcases hi' with rfl | rfl
      · skip
        refine YieldsIf.wpOp (S := fun w' => w' = w3) (v := vv) rfl (Or.inl ⟨by rfl, by rintro w' rfl; go_simp⟩) rfl ⟨hS3, ?_⟩
        refine wpAnyH_all (rs := [4]) (by kernel_rfl) (by simp) ?_
        intro i hi
        obtain rfl : i = 4 := by simpa using hi
        have B34 : Below w3.heap.size w3 (w3.alloc (.cells #[.int .i64 f.1, .int .i64 f.2] 32)) := (by repeat (first | exact bw_refl _ | assumption | apply bw_drewN | apply bw_drew | apply bw_alloc | refine bw_set ?_ (by simp) _))
        have hS4 : (fun w' : World => (w'.cell? ⟨Bx, 0, none⟩ = some (.int .i64 x.1.1) ∧ w'.cell? ⟨Bx, 1, none⟩ = some (.int .i64 x.1.2) ∧ w'.cell? ⟨Bx, 2, none⟩ = some (.int .i64 x.2.1) ∧ w'.cell? ⟨Bx, 3, none⟩ = some (.int .i64 x.2.2)) ∧ w'.cell? ⟨w.heap.size, 0, none⟩ = some (.int .i64 p.1) ∧ w'.cell? ⟨w.heap.size, 1, none⟩ = some (.int .i64 p.2)) (w3.alloc (.cells #[.int .i64 f.1, .int .i64 f.2] 32)) := ⟨(b3.below B34).c4, blk_2 (A3.below B34)⟩
        refine wpOp_now rfl (by rfl) ?_
        go_simp
        refine wpAnyH_all (rs := [5]) (by kernel_rfl) (by simp) ?_
        intro i hi
        obtain rfl : i = 5 := by simpa using hi
        refine wpOp_now rfl (by rfl) ?_
        refine wp_append_lies _ _ _ _ (by rfl) w.heap.size 32 i0 _ 2 16 Tryd.underlying93 hi0 hz0 hz1 hz2 rfl (by omega) _ pre.length _ (by rfl) (hr3.alloc _) ⟨w3.heap.size, 0, none⟩ 1 1 [.int .i64 f.1, .int .i64 f.2] (by rfl) (by rfl) (World.news_of_block (cs := #[.int .i64 f.1, .int .i64 f.2]) (t := 32) (fr := (0, 0)) (heap_alloc_new w3 _)) (by simp [Value.oneCell']) (by omega) hmax (by omega) (by simp; omega) (w3.heap.size + 1) (by simp) ?_
        intro gg cg w5 hown5 hgr5 hat5 hlt5
        obtain ⟨hv1, hv2, hr2, hk2, hb2⟩ := M3.appended (by decide) hr3 (by omega) (by omega) hown5 hgr5
        have hne : ∀ (k : Nat) (cs : Array Value) (t : TypeId), t ≠ 32 → w3.heap[k]? = some (.cells cs t (0, 0)) → w5.heap[k]? = some (.cells cs t (0, 0)) := fun k cs t ht h => by
          refine (hgr5.block k (by have := (Array.getElem?_eq_some_iff.1 h).1; simp; omega) (fun e => ?_)).trans ((B34.block k (Array.getElem?_eq_some_iff.1 h).1).trans h)
          rcases hr3.2 with ⟨e1, _⟩ | ⟨g0, c0', cur0, e1, _, hg0, _⟩
          · subst e1; cases e
          · subst e1
            have e' : k = g0 := Option.some.inj e
            rw [e', hg0] at h; cases h; exact ht rfl
        have A5 : Lies w.heap.size #[.int .i64 p.1, .int .i64 p.2] 28 w5 := hne _ _ _ (by decide) A3
        have b5 : Lies Bx #[.int .i64 x.1.1, .int .i64 x.1.2, .int .i64 x.2.1, .int .i64 x.2.2] 98 w5 := hne _ _ _ (by decide) b3
        have hS5 : (fun w' : World => (w'.cell? ⟨Bx, 0, none⟩ = some (.int .i64 x.1.1) ∧ w'.cell? ⟨Bx, 1, none⟩ = some (.int .i64 x.1.2) ∧ w'.cell? ⟨Bx, 2, none⟩ = some (.int .i64 x.2.1) ∧ w'.cell? ⟨Bx, 3, none⟩ = some (.int .i64 x.2.2)) ∧ w'.cell? ⟨w.heap.size, 0, none⟩ = some (.int .i64 p.1) ∧ w'.cell? ⟨w.heap.size, 1, none⟩ = some (.int .i64 p.2)) w5 := ⟨b5.c4, blk_2 A5⟩
        refine ⟨hS5, ?_⟩
        simp only [Act.put, List.setIfInBounds_toArray]
        refine wpAnyH_all (rs := [6]) (by kernel_rfl) (by simp) ?_
        intro i hi
        obtain rfl : i = 6 := by simpa using hi
        have hc1 := hv1.cell
        have hf1 := hv1.frozen
        refine wpOp_now rfl (by rfl) ?_
        go_simp
        refine wpAnyH_done (by kernel_rfl) ?_ _
        have BWX : Below w.heap.size W (w5.setCell ⟨w.heap.size + 1, 0, none⟩ (.slice (some ⟨gg, 0, none⟩) (pre.length + 1) cg)) := ((Below.refl _ W).drew.trans (J3.mono hzW)).trans hb2
        refine ⟨(((KeepsOthers.drew _).trans (KeepsOthers.of_below J3)).trans hk2).from _, ⟨BWX, fun k cs t ht h => ?_⟩, ⟨⟨_, hv2, ?_, trivial⟩, ?_⟩, hB1.trans BWX⟩
        · have h3 : w3.heap[k]? = some (.cells cs t (0, 0)) := (J3.block k (Array.getElem?_eq_some_iff.1 h).1).trans h
          refine (Below.heap_setCell _ _ _ k (fun e => ?_)).trans (hne k cs t (by rcases ht with rfl | rfl <;> decide) h3)
          have e' : k = w.heap.size + 1 := e
          rw [e', show W.heap[w.heap.size + 1]? = _ from M0] at h
          rcases ht with rfl | rfl <;> simp at h
        · rw [List.map_append, List.map_cons, List.map_nil, Hf.out, frCells_snoc, List.length_append, List.length_singleton]; exact hr2
        · exact (Below.heap_setCell _ _ _ w.heap.size (fun e => by have e' : w.heap.size = w.heap.size + 1 := e; omega)).trans A5
      · skip
        have B34 : Below w3.heap.size w3 (w3.alloc (.cells #[.int .i64 f.1, .int .i64 f.2] 32)) := (by repeat (first | exact bw_refl _ | assumption | apply bw_drewN | apply bw_drew | apply bw_alloc | refine bw_set ?_ (by simp) _))
        have hS4 : (fun w' : World => (w'.cell? ⟨Bx, 0, none⟩ = some (.int .i64 x.1.1) ∧ w'.cell? ⟨Bx, 1, none⟩ = some (.int .i64 x.1.2) ∧ w'.cell? ⟨Bx, 2, none⟩ = some (.int .i64 x.2.1) ∧ w'.cell? ⟨Bx, 3, none⟩ = some (.int .i64 x.2.2)) ∧ w'.cell? ⟨w.heap.size, 0, none⟩ = some (.int .i64 p.1) ∧ w'.cell? ⟨w.heap.size, 1, none⟩ = some (.int .i64 p.2)) (w3.alloc (.cells #[.int .i64 f.1, .int .i64 f.2] 32)) := ⟨(b3.below B34).c4, blk_2 (A3.below B34)⟩
        refine wpOp_now rfl (by rfl) ?_
        go_simp
        have cm4 := (M3.alloc (.cells #[.int .i64 f.1, .int .i64 f.2] 32)).cell
        refine wpAnyH_all (rs := [0]) (by kernel_rfl) (by simp) ?_
        intro i hi
        obtain rfl : i = 0 := by simpa using hi
        refine YieldsIf.wpOp (S := fun w' => w' = w3.alloc (.cells #[.int .i64 f.1, .int .i64 f.2] 32)) (v := vv) rfl (Or.inl ⟨by rfl, by rintro w' rfl; go_simp⟩) rfl ⟨hS4, ?_⟩
        refine wpAnyH_all (rs := [5]) (by kernel_rfl) (by simp) ?_
        intro i hi
        obtain rfl : i = 5 := by simpa using hi
        refine wpOp_now rfl (by rfl) ?_
        refine wp_append_lies _ _ _ _ (by rfl) w.heap.size 32 i0 _ 2 16 Tryd.underlying93 hi0 hz0 hz1 hz2 rfl (by omega) _ pre.length _ (by rfl) (hr3.alloc _) ⟨w3.heap.size, 0, none⟩ 1 1 [.int .i64 f.1, .int .i64 f.2] (by rfl) (by rfl) (World.news_of_block (cs := #[.int .i64 f.1, .int .i64 f.2]) (t := 32) (fr := (0, 0)) (heap_alloc_new w3 _)) (by simp [Value.oneCell']) (by omega) hmax (by omega) (by simp; omega) (w3.heap.size + 1) (by simp) ?_
        intro gg cg w5 hown5 hgr5 hat5 hlt5
        obtain ⟨hv1, hv2, hr2, hk2, hb2⟩ := M3.appended (by decide) hr3 (by omega) (by omega) hown5 hgr5
        have hne : ∀ (k : Nat) (cs : Array Value) (t : TypeId), t ≠ 32 → w3.heap[k]? = some (.cells cs t (0, 0)) → w5.heap[k]? = some (.cells cs t (0, 0)) := fun k cs t ht h => by
          refine (hgr5.block k (by have := (Array.getElem?_eq_some_iff.1 h).1; simp; omega) (fun e => ?_)).trans ((B34.block k (Array.getElem?_eq_some_iff.1 h).1).trans h)
          rcases hr3.2 with ⟨e1, _⟩ | ⟨g0, c0', cur0, e1, _, hg0, _⟩
          · subst e1; cases e
          · subst e1
            have e' : k = g0 := Option.some.inj e
            rw [e', hg0] at h; cases h; exact ht rfl
        have A5 : Lies w.heap.size #[.int .i64 p.1, .int .i64 p.2] 28 w5 := hne _ _ _ (by decide) A3
        have b5 : Lies Bx #[.int .i64 x.1.1, .int .i64 x.1.2, .int .i64 x.2.1, .int .i64 x.2.2] 98 w5 := hne _ _ _ (by decide) b3
        have hS5 : (fun w' : World => (w'.cell? ⟨Bx, 0, none⟩ = some (.int .i64 x.1.1) ∧ w'.cell? ⟨Bx, 1, none⟩ = some (.int .i64 x.1.2) ∧ w'.cell? ⟨Bx, 2, none⟩ = some (.int .i64 x.2.1) ∧ w'.cell? ⟨Bx, 3, none⟩ = some (.int .i64 x.2.2)) ∧ w'.cell? ⟨w.heap.size, 0, none⟩ = some (.int .i64 p.1) ∧ w'.cell? ⟨w.heap.size, 1, none⟩ = some (.int .i64 p.2)) w5 := ⟨b5.c4, blk_2 A5⟩
        refine ⟨hS5, ?_⟩
        simp only [Act.put, List.setIfInBounds_toArray]
        refine wpAnyH_all (rs := [6]) (by kernel_rfl) (by simp) ?_
        intro i hi
        obtain rfl : i = 6 := by simpa using hi
        have hc1 := hv1.cell
        have hf1 := hv1.frozen
        refine wpOp_now rfl (by rfl) ?_
        go_simp
        refine wpAnyH_done (by kernel_rfl) ?_ _
        have BWX : Below w.heap.size W (w5.setCell ⟨w.heap.size + 1, 0, none⟩ (.slice (some ⟨gg, 0, none⟩) (pre.length + 1) cg)) := ((Below.refl _ W).drew.trans (J3.mono hzW)).trans hb2
        refine ⟨(((KeepsOthers.drew _).trans (KeepsOthers.of_below J3)).trans hk2).from _, ⟨BWX, fun k cs t ht h => ?_⟩, ⟨⟨_, hv2, ?_, trivial⟩, ?_⟩, hB1.trans BWX⟩
        · have h3 : w3.heap[k]? = some (.cells cs t (0, 0)) := (J3.block k (Array.getElem?_eq_some_iff.1 h).1).trans h
          refine (Below.heap_setCell _ _ _ k (fun e => ?_)).trans (hne k cs t (by rcases ht with rfl | rfl <;> decide) h3)
          have e' : k = w.heap.size + 1 := e
          rw [e', show W.heap[w.heap.size + 1]? = _ from M0] at h
          rcases ht with rfl | rfl <;> simp at h
        · rw [List.map_append, List.map_cons, List.map_nil, Hf.out, frCells_snoc, List.length_append, List.length_singleton]; exact hr2
        · exact (Below.heap_setCell _ _ _ w.heap.size (fun e => by have e' : w.heap.size = w.heap.size + 1 := e; omega)).trans A5
  case done =>
    rintro D W hD ⟨⟨⟨vv, M0, hr0, _⟩, A0⟩, hB1⟩ hK
    have cR := M0.cell
    gi_wp2
    refine ⟨by simp, .inl ⟨_, _, rfl, run_takeDeferred hK, ?_⟩⟩
    exact ⟨vv, by simp [results, Tryd.results45, go_sem], vv, rfl, ownsRow_putObj hr0 _ hK rfl, hB1.trans (belowK_b (w := w) (Nat.le_refl _) _ D _ _ (by omega) hK rfl rfl)⟩
end Go.Proofs.YtlikfcfblkckaaaDoor
namespace Go.Proofs.YtlikfcfblkckaaaDoor
open Go.RowKit Go.Sort

/-- One number divided by another one, within the limits. -/
theorem l1Of_any (n d : Int) (w : World) (h1 : 0 ≤ n) (h2 : n ≤ 99999) (h3 : 1 ≤ d) (h4 : d ≤ 99999) :
    Calls Tryd.prog 67 #[.int .i64 n, .int .i64 d] w fun e w' => e = .returned (.agg #[.int .i64 (n / G n d), .int .i64 (d / G n d)]) ∧ Below w.heap.size w w' := by
  have hg := G_pos n d h3
  have hz : (G n d == 0) = false := by simp; omega
  go_enter Tryd.func67, Tryd.ntmps67
  go_wp2_with (go_at_call 81; refine (gcd_spec _ _ _ h1 (by omega) (by omega) (by omega)).mono ?_; rintro e w' ⟨rfl, m, rfl⟩)
  go_region
  all_goals go_wp2
  all_goals exact bodyPost_ret (v := .agg #[.int .i64 (n / G n d), .int .i64 (d / G n d)]) (by simp [results, Tryd.results67, go_sem]) rfl ⟨rfl, by repeat (first | exact bw_refl _ | apply bw_drewN | apply bw_drew | apply bw_alloc | refine bw_set ?_ (by simp) _)⟩
theorem l1Cmp_any (n d m b : Int) (w : World) (h : okB n d = true) (h' : okB m b = true) :
    Calls Tryd.prog 68 #[.agg #[.int .i64 n, .int .i64 d], .agg #[.int .i64 m, .int .i64 b]] w fun e w' => e = .returned (.int .i64 (cmpI (n * b) (m * d))) ∧ Below w.heap.size w w' := by
  have k1 := (okB_iff n d).1 h
  have k2 := (okB_iff m b).1 h'
  obtain ⟨p1, p2⟩ := mul_bd n b k1.1 k1.2.1 (by omega) k2.2.2.2.1
  obtain ⟨q1, q2⟩ := mul_bd m d k2.1 k2.2.1 (by omega) k1.2.2.2.1
  clear h h' k1 k2
  have hc : n * b < m * d ∨ (¬ n * b < m * d ∧ m * d < n * b) ∨ (¬ n * b < m * d ∧ ¬ m * d < n * b) := by omega
  rcases hc with h1 | ⟨h1, h2⟩ | ⟨h1, h2⟩
  · have e : Hid (cmpI (n * b) (m * d) = -1) := by unfold cmpI; rw [if_pos h1]; rfl
    go_enter Tryd.func68, Tryd.ntmps68
    go_wp2
    go_ret
    exact ⟨ret_int e.out.symm, by repeat (first | exact bw_refl _ | apply bw_drewN | apply bw_drew | apply bw_alloc | refine bw_set ?_ (by simp) _)⟩
  · have e : Hid (cmpI (n * b) (m * d) = 1) := by unfold cmpI; rw [if_neg h1, if_pos h2]; rfl
    go_enter Tryd.func68, Tryd.ntmps68
    go_wp2
    go_ret
    exact ⟨ret_int e.out.symm, by repeat (first | exact bw_refl _ | apply bw_drewN | apply bw_drew | apply bw_alloc | refine bw_set ?_ (by simp) _)⟩
  · have e : Hid (cmpI (n * b) (m * d) = 0) := by unfold cmpI; rw [if_neg h1, if_neg h2]; rfl
    go_enter Tryd.func68, Tryd.ntmps68
    go_wp2
    go_ret
    exact ⟨ret_int e.out.symm, by repeat (first | exact bw_refl _ | apply bw_drewN | apply bw_drew | apply bw_alloc | refine bw_set ?_ (by simp) _)⟩
theorem l1Of_of (n d : Int) (w : World) (h : inB n d = true) :
    Calls Tryd.prog 67 #[.int .i64 n, .int .i64 d] w fun e w' => e = .returned (.agg #[.int .i64 (ofN n d), .int .i64 (ofD n d)]) ∧ Below w.heap.size w w' := by
  have h' := (inB_iff n d).1 h
  unfold ofN ofD
  rw [h]
  exact l1Of_any n d w h'.1 h'.2.1 h'.2.2.1 h'.2.2.2
set_option maxHeartbeats 1000000 in
theorem sFar_ok (ax ay bx b_y px py : Int) (w : World) (gs : sgB ax ay bx b_y = true) (gp : ptB px py = true) :
    Calls Tryd.prog 47 #[.agg #[.int .i64 ax, .int .i64 ay, .int .i64 bx, .int .i64 b_y], .agg #[.int .i64 px, .int .i64 py]] w fun e w' => e = .returned (.agg #[.int .i64 (far ax ay bx b_y px py).1, .int .i64 (far ax ay bx b_y px py).2]) ∧ Below w.heap.size w w' := by
  obtain ⟨pa, pb, _⟩ := sg_parts gs
  have hb := dt_back ax ay bx b_y px py
  unfold far
  by_cases h : dt ax ay bx b_y px py ≤ 0
  · rw [if_pos h]
    clear hb
    go_enter Tryd.func47, Tryd.ntmps47
    go_wp2_with fail
    refine (sDot_any _ _ _ _ _ _ _ pa pb gp).mono ?_
    rintro e w1 ⟨rfl, J⟩
    obtain ⟨hc, hf⟩ := bcell J
    go_wp2_with fail
    refine (sDot_any _ _ _ _ _ _ _ pa pb pb).mono ?_
    rintro e w1 ⟨rfl, J2⟩
    replace J := bw_trans J J2
    clear hc hf J2
    obtain ⟨hc, hf⟩ := bcell J
    go_wp2_with fail
    refine (sDot_any _ _ _ _ _ _ _ pa gp gp).mono ?_
    rintro e w1 ⟨rfl, J2⟩
    replace J := bw_trans J J2
    clear hc hf J2
    obtain ⟨hc, hf⟩ := bcell J
    have HB : Hid (Below w.heap.size w w1) := bw_trans (by repeat (first | exact bw_refl _ | assumption | apply bw_drewN | apply bw_drew | apply bw_alloc | refine bw_set ?_ (by simp) _)) J
    have hz := J.size
    simp at hz
    have hz' : w.heap.size + 2 < w1.heap.size := by omega
    clear hz J
    go_wp2_with fail
    exact bodyPost_ret (v := .agg #[.int .i64 (dt ax ay px py px py), .int .i64 1]) (by simp [results, Tryd.results47, go_sem, hc]) rfl ⟨rfl, by repeat (first | with_reducible exact HB.out | with_reducible refine bw_set ?_ (by dsimp only; omega) _)⟩
  · rw [if_neg h]
    have h' : 0 < dt ax ay bx b_y px py := by omega
    by_cases h2 : dt bx b_y ax ay px py ≤ 0
    · rw [if_pos h2]
      have h3 : dt ax ay bx b_y bx b_y ≤ dt ax ay bx b_y px py := by omega
      clear hb h h2
      go_enter Tryd.func47, Tryd.ntmps47
      go_wp2_with fail
      refine (sDot_any _ _ _ _ _ _ _ pa pb gp).mono ?_
      rintro e w1 ⟨rfl, J⟩
      obtain ⟨hc, hf⟩ := bcell J
      go_wp2_with fail
      refine (sDot_any _ _ _ _ _ _ _ pa pb pb).mono ?_
      rintro e w1 ⟨rfl, J2⟩
      replace J := bw_trans J J2
      clear hc hf J2
      obtain ⟨hc, hf⟩ := bcell J
      go_wp2_with fail
      refine (sDot_any _ _ _ _ _ _ _ pb gp gp).mono ?_
      rintro e w1 ⟨rfl, J2⟩
      replace J := bw_trans J J2
      clear hc hf J2
      obtain ⟨hc, hf⟩ := bcell J
      have HB : Hid (Below w.heap.size w w1) := bw_trans (by repeat (first | exact bw_refl _ | assumption | apply bw_drewN | apply bw_drew | apply bw_alloc | refine bw_set ?_ (by simp) _)) J
      have hz := J.size
      simp at hz
      have hz' : w.heap.size + 2 < w1.heap.size := by omega
      clear hz J
      go_wp2_with fail
      exact bodyPost_ret (v := .agg #[.int .i64 (dt bx b_y px py px py), .int .i64 1]) (by simp [results, Tryd.results47, go_sem, hc]) rfl ⟨rfl, by repeat (first | with_reducible exact HB.out | with_reducible refine bw_set ?_ (by dsimp only; omega) _)⟩
    · rw [if_neg h2]
      have h3 : dt ax ay bx b_y px py < dt ax ay bx b_y bx b_y := by omega
      have d1 := crs_bd pa pb gp
      have d2 := prod_bd2 d1.1 d1.2 d1.1 d1.2
      have hi := line_in gs gp
      clear hb h h2
      go_enter Tryd.func47, Tryd.ntmps47
      go_wp2_with fail
      refine (sDot_any _ _ _ _ _ _ _ pa pb gp).mono ?_
      rintro e w1 ⟨rfl, J⟩
      obtain ⟨hc, hf⟩ := bcell J
      go_wp2_with fail
      refine (sDot_any _ _ _ _ _ _ _ pa pb pb).mono ?_
      rintro e w1 ⟨rfl, J2⟩
      replace J := bw_trans J J2
      clear hc hf J2
      obtain ⟨hc, hf⟩ := bcell J
      go_wp2_with fail
      refine (sCross_any _ _ _ _ _ _ _ pa pb gp).mono ?_
      rintro e w1 ⟨rfl, J2⟩
      replace J := bw_trans J J2
      clear hc hf J2
      obtain ⟨hc, hf⟩ := bcell J
      go_wp2_with fail
      refine (l1Of_of _ _ _ hi).mono ?_
      rintro e w1 ⟨rfl, J2⟩
      replace J := bw_trans J J2
      clear hc hf J2
      obtain ⟨hc, hf⟩ := bcell J
      have HB : Hid (Below w.heap.size w w1) := bw_trans (by repeat (first | exact bw_refl _ | assumption | apply bw_drewN | apply bw_drew | apply bw_alloc | refine bw_set ?_ (by simp) _)) J
      have hz := J.size
      simp at hz
      have hz' : w.heap.size + 2 < w1.heap.size := by omega
      clear hz J
      go_wp2_with fail
      exact bodyPost_ret (v := .agg #[.int .i64 (ofN (crs ax ay bx b_y px py * crs ax ay bx b_y px py) (dt ax ay bx b_y bx b_y)), .int .i64 (ofD (crs ax ay bx b_y px py * crs ax ay bx b_y px py) (dt ax ay bx b_y bx b_y))]) (by simp [results, Tryd.results47, go_sem, hc]) rfl ⟨rfl, by repeat (first | with_reducible exact HB.out | with_reducible refine bw_set ?_ (by dsimp only; omega) _)⟩
end Go.Proofs.YtlikfcfblkckaaaDoor
namespace Go.Proofs.YtlikfcfblkckaaaDoor
open Go.RowKit Go.Sort

theorem cmpI_lt (x y : Int) (h : x < y) : cmpI x y = -1 := by unfold cmpI; rw [if_pos h]
theorem cmpI_ge (x y : Int) (h : ¬ x < y) : ¬ cmpI x y < 0 := by unfold cmpI; rw [if_neg h]; split <;> omega
set_option maxHeartbeats 1000000 in
theorem sLeast_ok (f g : Int × Int) (w : World) (hf : OkF f) (hg : OkF g) :
    Calls Tryd.prog 48 #[.agg #[.int .i64 f.1, .int .i64 f.2], .agg #[.int .i64 g.1, .int .i64 g.2]] w fun e w' => e = .returned (.agg #[.int .i64 (mn f g).1, .int .i64 (mn f g).2]) ∧ Below w.heap.size w w' := by
  unfold OkF at hf hg
  obtain ⟨n, d⟩ := f
  obtain ⟨m, b⟩ := g
  unfold mn
  by_cases h : m * d < n * b
  · rw [if_pos h]
    have e := cmpI_lt _ _ h
    clear h
    go_enter Tryd.func48, Tryd.ntmps48
    go_wp2_with fail
    refine (l1Cmp_any _ _ _ _ _ hg hf).mono ?_
    rw [e]
    rintro e w1 ⟨rfl, J⟩
    obtain ⟨hc, hf⟩ := bcell J
    have HB : Hid (Below w.heap.size w w1) := bw_trans (by repeat (first | exact bw_refl _ | assumption | apply bw_drewN | apply bw_drew | apply bw_alloc | refine bw_set ?_ (by simp) _)) J
    have hz := J.size
    simp at hz
    have hz' : w.heap.size + 2 < w1.heap.size := by omega
    clear hz J
    go_wp2_with fail
    exact bodyPost_ret (v := .agg #[.int .i64 m, .int .i64 b]) (by simp [results, Tryd.results48, go_sem, hc]) rfl ⟨rfl, by repeat (first | with_reducible exact HB.out | with_reducible refine bw_set ?_ (by dsimp only; omega) _)⟩
  · rw [if_neg h]
    have e := cmpI_ge _ _ h
    clear h
    generalize hx : cmpI (m * d) (n * b) = x at e
    have hx' : Hid (cmpI (m * d) (n * b) = x) := hx
    clear hx
    have e' : 0 ≤ x := by omega
    clear e
    go_enter Tryd.func48, Tryd.ntmps48
    go_wp2_with fail
    refine (l1Cmp_any _ _ _ _ _ hg hf).mono ?_
    rw [hx'.out]
    rintro e w1 ⟨rfl, J⟩
    obtain ⟨hc, hf⟩ := bcell J
    have HB : Hid (Below w.heap.size w w1) := bw_trans (by repeat (first | exact bw_refl _ | assumption | apply bw_drewN | apply bw_drew | apply bw_alloc | refine bw_set ?_ (by simp) _)) J
    have hz := J.size
    simp at hz
    have hz' : w.heap.size + 2 < w1.heap.size := by omega
    clear hz J
    go_wp2_with fail
    exact bodyPost_ret (v := .agg #[.int .i64 n, .int .i64 d]) (by simp [results, Tryd.results48, go_sem, hc]) rfl ⟨rfl, by repeat (first | with_reducible exact HB.out | with_reducible refine bw_set ?_ (by dsimp only; omega) _)⟩
/-- The block of three fractions. -/
def Three (w : World) (b : Nat) (f g h : Int × Int) : Prop := w.heap[b]? = some (.cells #[.int .i64 f.1, .int .i64 f.2, .int .i64 g.1, .int .i64 g.2, .int .i64 h.1, .int .i64 h.2] 32 (0, 0))
theorem setO2 {w : World} {b b' i j : Nat} {v u : Value} {o : Obj} (h : w.heap[b']? = some o) (hne : b' ≠ b) : ((w.setCell ⟨b, i, none⟩ v).setCell ⟨b, j, none⟩ u).heap[b']? = some o := by
  rw [Below.heap_setCell _ _ _ _ (by show b' ≠ b; exact hne), Below.heap_setCell _ _ _ _ (by show b' ≠ b; exact hne)]; exact h
theorem blk_6 {w : World} {b : Nat} {x0 x1 x2 x3 x4 x5 : Value} {t : TypeId} (h : w.heap[b]? = some (.cells #[x0, x1, x2, x3, x4, x5] t (0, 0))) :
    w.cell? ⟨b, 0, none⟩ = some x0 ∧ w.cell? ⟨b, 1, none⟩ = some x1 ∧ w.cell? ⟨b, 2, none⟩ = some x2 ∧ w.cell? ⟨b, 3, none⟩ = some x3 ∧ w.cell? ⟨b, 4, none⟩ = some x4 ∧ w.cell? ⟨b, 5, none⟩ = some x5 := by
  refine ⟨?_, ?_, ?_, ?_, ?_, ?_⟩ <;> simp [World.cell?, h]
set_option maxHeartbeats 2000000 in
theorem least_ok (f0 f1 f2 f3 : Int × Int) (bs : Nat) (ad : Addr) (w : World) (h0 : Sent ad w) (o0 : OkF f0) (o1 : OkF f1) (o2 : OkF f2) (o3 : OkF f3) (TH : Three w bs f1 f2 f3) :
    Calls Tryd.prog 46 #[.agg #[.int .i64 f0.1, .int .i64 f0.2], .slice (some ⟨bs, 0, none⟩) 3 3] w fun e w' => e = .returned (.agg #[.int .i64 (mnA f0 f1 f2 f3).1, .int .i64 (mnA f0 f1 f2 f3).2]) ∧ Below w.heap.size w w' := by
  unfold Three at TH
  have zb := blk_lt TH
  obtain ⟨W, hW, H, _, RB, LB⟩ := boxes3 w (.cells #[.int .i64 f0.1, .int .i64 f0.2] 32) (.cells #[.int .i64 0, .int .i64 0] 32) (.cells #[.int .i64 f0.1, .int .i64 f0.2] 32)
  replace TH := keep H TH
  have nb : bs ≠ w.heap.size + 1 ∧ bs ≠ w.heap.size + 2 := by omega
  obtain ⟨nb1, nb2⟩ := nb
  go_enter Tryd.func46, Tryd.ntmps46
  go_upto_region 3 with fail
  rw [← hW]
  clear hW
  refine wp_loop_rounds 4 ?_
  rw [rounds_succ]
  obtain ⟨t0, t1, t2, t3, t4, t5⟩ := blk_6 TH
  obtain ⟨l0, l1⟩ := blk_2 LB
  have zl := blk_lt LB
  have zt := blk_lt TH
  have hs1 := h0.below H
  by_cases c1 : f1.1 * f0.2 < f0.1 * f1.2
  · have m1 : mn f0 f1 = f1 := if_pos c1
    have e1 := cmpI_lt _ _ c1
    clear c1
    go_wp2_with fail
    refine (fracCmp_both f1.1 f1.2 f0.1 f0.2 ad _ (hs1.below (bw_alloc (bw_refl _) _)) o1 o0).mono ?_
    rw [e1]
    rintro e w1 ⟨rfl, K⟩
    have FB := keep K (heap_new _ _)
    replace LB := keep K ((heap_old _ _ (blk_lt LB)).trans LB)
    replace RB := keep K ((heap_old _ _ (blk_lt RB)).trans RB)
    replace TH := keep K ((heap_old _ _ (blk_lt TH)).trans TH)
    replace H := bw_trans (bw_alloc H _) K
    clear t0 t1 t2 t3 t4 t5 l0 l1 K hs1
    have zf := blk_lt FB
    have zl1 := blk_lt LB
    obtain ⟨u0, u1⟩ := blk_2 FB
    obtain ⟨q0, q1, qf0, qf1⟩ := blkF LB
    go_wp2_with fail
    replace LB := setF2 LB (u0 := .int .i64 f1.1) (u1 := .int .i64 f1.2)
    replace RB := setO2 RB (b := w.heap.size + 2) (i := 0) (j := 1) (v := .int .i64 f1.1) (u := .int .i64 f1.2) (by omega)
    replace TH := setO2 TH (b := w.heap.size + 2) (i := 0) (j := 1) (v := .int .i64 f1.1) (u := .int .i64 f1.2) (by omega)
    replace H := bw_set (bw_set H (p := ⟨w.heap.size + 2, 0, none⟩) (by dsimp only; omega) (.int .i64 f1.1)) (p := ⟨w.heap.size + 2, 1, none⟩) (by dsimp only; omega) (.int .i64 f1.2)
    clear q0 q1 qf0 qf1 e1
    generalize ((w1.setCell ⟨w.heap.size + 2, 0, none⟩ (.int .i64 f1.1)).setCell ⟨w.heap.size + 2, 1, none⟩ (.int .i64 f1.2)) = V1 at LB RB TH H ⊢
    clear u0 u1 FB zf zl zl1 zt
    rw [rounds_succ]
    obtain ⟨t0, t1, t2, t3, t4, t5⟩ := blk_6 TH
    obtain ⟨l0, l1⟩ := blk_2 LB
    have zl := blk_lt LB
    have zt := blk_lt TH
    have hs2 := h0.below H
    by_cases c2 : f2.1 * f1.2 < f1.1 * f2.2
    · have m2 : mn f1 f2 = f2 := if_pos c2
      have e2 := cmpI_lt _ _ c2
      clear c2
      go_wp2_with fail
      refine (fracCmp_both f2.1 f2.2 f1.1 f1.2 ad _ (hs2.below (bw_alloc (bw_refl _) _)) o2 o1).mono ?_
      rw [e2]
      rintro e w2 ⟨rfl, K⟩
      have FB := keep K (heap_new _ _)
      replace LB := keep K ((heap_old _ _ (blk_lt LB)).trans LB)
      replace RB := keep K ((heap_old _ _ (blk_lt RB)).trans RB)
      replace TH := keep K ((heap_old _ _ (blk_lt TH)).trans TH)
      replace H := bw_trans (bw_alloc H _) K
      clear t0 t1 t2 t3 t4 t5 l0 l1 K hs2
      have zf := blk_lt FB
      have zl2 := blk_lt LB
      obtain ⟨u0, u1⟩ := blk_2 FB
      obtain ⟨q0, q1, qf0, qf1⟩ := blkF LB
      go_wp2_with fail
      replace LB := setF2 LB (u0 := .int .i64 f2.1) (u1 := .int .i64 f2.2)
      replace RB := setO2 RB (b := w.heap.size + 2) (i := 0) (j := 1) (v := .int .i64 f2.1) (u := .int .i64 f2.2) (by omega)
      replace TH := setO2 TH (b := w.heap.size + 2) (i := 0) (j := 1) (v := .int .i64 f2.1) (u := .int .i64 f2.2) (by omega)
      replace H := bw_set (bw_set H (p := ⟨w.heap.size + 2, 0, none⟩) (by dsimp only; omega) (.int .i64 f2.1)) (p := ⟨w.heap.size + 2, 1, none⟩) (by dsimp only; omega) (.int .i64 f2.2)
      clear q0 q1 qf0 qf1 e2
      generalize ((w2.setCell ⟨w.heap.size + 2, 0, none⟩ (.int .i64 f2.1)).setCell ⟨w.heap.size + 2, 1, none⟩ (.int .i64 f2.2)) = V2 at LB RB TH H ⊢
      clear u0 u1 FB zf zl zl2 zt
      rw [rounds_succ]
      obtain ⟨t0, t1, t2, t3, t4, t5⟩ := blk_6 TH
      obtain ⟨l0, l1⟩ := blk_2 LB
      have zl := blk_lt LB
      have zt := blk_lt TH
      have hs3 := h0.below H
      by_cases c3 : f3.1 * f2.2 < f2.1 * f3.2
      · have m3 : mn f2 f3 = f3 := if_pos c3
        have e3 := cmpI_lt _ _ c3
        clear c3
        go_wp2_with fail
        refine (fracCmp_both f3.1 f3.2 f2.1 f2.2 ad _ (hs3.below (bw_alloc (bw_refl _) _)) o3 o2).mono ?_
        rw [e3]
        rintro e w3 ⟨rfl, K⟩
        have FB := keep K (heap_new _ _)
        replace LB := keep K ((heap_old _ _ (blk_lt LB)).trans LB)
        replace RB := keep K ((heap_old _ _ (blk_lt RB)).trans RB)
        replace TH := keep K ((heap_old _ _ (blk_lt TH)).trans TH)
        replace H := bw_trans (bw_alloc H _) K
        clear t0 t1 t2 t3 t4 t5 l0 l1 K hs3
        have zf := blk_lt FB
        have zl3 := blk_lt LB
        obtain ⟨u0, u1⟩ := blk_2 FB
        obtain ⟨q0, q1, qf0, qf1⟩ := blkF LB
        go_wp2_with fail
        replace LB := setF2 LB (u0 := .int .i64 f3.1) (u1 := .int .i64 f3.2)
        replace RB := setO2 RB (b := w.heap.size + 2) (i := 0) (j := 1) (v := .int .i64 f3.1) (u := .int .i64 f3.2) (by omega)
        replace TH := setO2 TH (b := w.heap.size + 2) (i := 0) (j := 1) (v := .int .i64 f3.1) (u := .int .i64 f3.2) (by omega)
        replace H := bw_set (bw_set H (p := ⟨w.heap.size + 2, 0, none⟩) (by dsimp only; omega) (.int .i64 f3.1)) (p := ⟨w.heap.size + 2, 1, none⟩) (by dsimp only; omega) (.int .i64 f3.2)
        clear q0 q1 qf0 qf1 e3
        generalize ((w3.setCell ⟨w.heap.size + 2, 0, none⟩ (.int .i64 f3.1)).setCell ⟨w.heap.size + 2, 1, none⟩ (.int .i64 f3.2)) = V3 at LB RB TH H ⊢
        clear u0 u1 FB zf zl zl3 zt
        rw [rounds_succ]
        obtain ⟨l0, l1⟩ := blk_2 LB
        have zl := blk_lt LB
        have zr := blk_lt RB
        obtain ⟨q0, q1, qf0, qf1⟩ := blkF RB
        have R2 := setF2 RB (u0 := .int .i64 f3.1) (u1 := .int .i64 f3.2)
        obtain ⟨r0, r1⟩ := blk_2 R2
        have HB : Hid _ := H
        have e1 : Hid (mnA f0 f1 f2 f3 = f3) := by change _ = _; unfold mnA; rw [m1, m2, m3]
        clear R2 RB LB TH H m1 m2 m3
        go_wp2_with fail
        exact bodyPost_ret (v := .agg #[.int .i64 f3.1, .int .i64 f3.2]) (by simp [results, Tryd.results46, go_sem, r0, r1]) rfl ⟨by rw [e1.out], by repeat (first | with_reducible exact HB.out | with_reducible refine bw_set ?_ (by dsimp only; omega) _)⟩
      · have m3 : mn f2 f3 = f2 := if_neg c3
        have g3 := cmpI_ge _ _ c3
        generalize hx3 : cmpI (f3.1 * f2.2) (f2.1 * f3.2) = x3 at g3
        have HX3 : Hid (cmpI (f3.1 * f2.2) (f2.1 * f3.2) = x3) := hx3
        have p3 : 0 ≤ x3 := by omega
        clear hx3 g3
        clear c3
        go_wp2_with fail
        refine (fracCmp_both f3.1 f3.2 f2.1 f2.2 ad _ (hs3.below (bw_alloc (bw_refl _) _)) o3 o2).mono ?_
        rw [HX3.out]
        rintro e w3 ⟨rfl, K⟩
        have FB := keep K (heap_new _ _)
        replace LB := keep K ((heap_old _ _ (blk_lt LB)).trans LB)
        replace RB := keep K ((heap_old _ _ (blk_lt RB)).trans RB)
        replace TH := keep K ((heap_old _ _ (blk_lt TH)).trans TH)
        replace H := bw_trans (bw_alloc H _) K
        clear t0 t1 t2 t3 t4 t5 l0 l1 K hs3
        have zf := blk_lt FB
        have zl3 := blk_lt LB
        obtain ⟨u0, u1⟩ := blk_2 FB
        go_wp2_with fail
        clear u0 u1 FB zf zl zl3 zt
        rw [rounds_succ]
        obtain ⟨l0, l1⟩ := blk_2 LB
        have zl := blk_lt LB
        have zr := blk_lt RB
        obtain ⟨q0, q1, qf0, qf1⟩ := blkF RB
        have R2 := setF2 RB (u0 := .int .i64 f2.1) (u1 := .int .i64 f2.2)
        obtain ⟨r0, r1⟩ := blk_2 R2
        have HB : Hid _ := H
        have e1 : Hid (mnA f0 f1 f2 f3 = f2) := by change _ = _; unfold mnA; rw [m1, m2, m3]
        clear R2 RB LB TH H m1 m2 m3
        go_wp2_with fail
        exact bodyPost_ret (v := .agg #[.int .i64 f2.1, .int .i64 f2.2]) (by simp [results, Tryd.results46, go_sem, r0, r1]) rfl ⟨by rw [e1.out], by repeat (first | with_reducible exact HB.out | with_reducible refine bw_set ?_ (by dsimp only; omega) _)⟩
    · have m2 : mn f1 f2 = f1 := if_neg c2
      have g2 := cmpI_ge _ _ c2
      generalize hx2 : cmpI (f2.1 * f1.2) (f1.1 * f2.2) = x2 at g2
      have HX2 : Hid (cmpI (f2.1 * f1.2) (f1.1 * f2.2) = x2) := hx2
      have p2 : 0 ≤ x2 := by omega
      clear hx2 g2
      clear c2
      go_wp2_with fail
      refine (fracCmp_both f2.1 f2.2 f1.1 f1.2 ad _ (hs2.below (bw_alloc (bw_refl _) _)) o2 o1).mono ?_
      rw [HX2.out]
      rintro e w2 ⟨rfl, K⟩
      have FB := keep K (heap_new _ _)
      replace LB := keep K ((heap_old _ _ (blk_lt LB)).trans LB)
      replace RB := keep K ((heap_old _ _ (blk_lt RB)).trans RB)
      replace TH := keep K ((heap_old _ _ (blk_lt TH)).trans TH)
      replace H := bw_trans (bw_alloc H _) K
      clear t0 t1 t2 t3 t4 t5 l0 l1 K hs2
      have zf := blk_lt FB
      have zl2 := blk_lt LB
      obtain ⟨u0, u1⟩ := blk_2 FB
      go_wp2_with fail
      clear u0 u1 FB zf zl zl2 zt
      rw [rounds_succ]
      obtain ⟨t0, t1, t2, t3, t4, t5⟩ := blk_6 TH
      obtain ⟨l0, l1⟩ := blk_2 LB
      have zl := blk_lt LB
      have zt := blk_lt TH
      have hs3 := h0.below H
      by_cases c3 : f3.1 * f1.2 < f1.1 * f3.2
      · have m3 : mn f1 f3 = f3 := if_pos c3
        have e3 := cmpI_lt _ _ c3
        clear c3
        go_wp2_with fail
        refine (fracCmp_both f3.1 f3.2 f1.1 f1.2 ad _ (hs3.below (bw_alloc (bw_refl _) _)) o3 o1).mono ?_
        rw [e3]
        rintro e w3 ⟨rfl, K⟩
        have FB := keep K (heap_new _ _)
        replace LB := keep K ((heap_old _ _ (blk_lt LB)).trans LB)
        replace RB := keep K ((heap_old _ _ (blk_lt RB)).trans RB)
        replace TH := keep K ((heap_old _ _ (blk_lt TH)).trans TH)
        replace H := bw_trans (bw_alloc H _) K
        clear t0 t1 t2 t3 t4 t5 l0 l1 K hs3
        have zf := blk_lt FB
        have zl3 := blk_lt LB
        obtain ⟨u0, u1⟩ := blk_2 FB
        obtain ⟨q0, q1, qf0, qf1⟩ := blkF LB
        go_wp2_with fail
        replace LB := setF2 LB (u0 := .int .i64 f3.1) (u1 := .int .i64 f3.2)
        replace RB := setO2 RB (b := w.heap.size + 2) (i := 0) (j := 1) (v := .int .i64 f3.1) (u := .int .i64 f3.2) (by omega)
        replace TH := setO2 TH (b := w.heap.size + 2) (i := 0) (j := 1) (v := .int .i64 f3.1) (u := .int .i64 f3.2) (by omega)
        replace H := bw_set (bw_set H (p := ⟨w.heap.size + 2, 0, none⟩) (by dsimp only; omega) (.int .i64 f3.1)) (p := ⟨w.heap.size + 2, 1, none⟩) (by dsimp only; omega) (.int .i64 f3.2)
        clear q0 q1 qf0 qf1 e3
        generalize ((w3.setCell ⟨w.heap.size + 2, 0, none⟩ (.int .i64 f3.1)).setCell ⟨w.heap.size + 2, 1, none⟩ (.int .i64 f3.2)) = V3 at LB RB TH H ⊢
        clear u0 u1 FB zf zl zl3 zt
        rw [rounds_succ]
        obtain ⟨l0, l1⟩ := blk_2 LB
        have zl := blk_lt LB
        have zr := blk_lt RB
        obtain ⟨q0, q1, qf0, qf1⟩ := blkF RB
        have R2 := setF2 RB (u0 := .int .i64 f3.1) (u1 := .int .i64 f3.2)
        obtain ⟨r0, r1⟩ := blk_2 R2
        have HB : Hid _ := H
        have e1 : Hid (mnA f0 f1 f2 f3 = f3) := by change _ = _; unfold mnA; rw [m1, m2, m3]
        clear R2 RB LB TH H m1 m2 m3
        go_wp2_with fail
        exact bodyPost_ret (v := .agg #[.int .i64 f3.1, .int .i64 f3.2]) (by simp [results, Tryd.results46, go_sem, r0, r1]) rfl ⟨by rw [e1.out], by repeat (first | with_reducible exact HB.out | with_reducible refine bw_set ?_ (by dsimp only; omega) _)⟩
      · have m3 : mn f1 f3 = f1 := if_neg c3
        have g3 := cmpI_ge _ _ c3
        generalize hx3 : cmpI (f3.1 * f1.2) (f1.1 * f3.2) = x3 at g3
        have HX3 : Hid (cmpI (f3.1 * f1.2) (f1.1 * f3.2) = x3) := hx3
        have p3 : 0 ≤ x3 := by omega
        clear hx3 g3
        clear c3
        go_wp2_with fail
        refine (fracCmp_both f3.1 f3.2 f1.1 f1.2 ad _ (hs3.below (bw_alloc (bw_refl _) _)) o3 o1).mono ?_
        rw [HX3.out]
        rintro e w3 ⟨rfl, K⟩
        have FB := keep K (heap_new _ _)
        replace LB := keep K ((heap_old _ _ (blk_lt LB)).trans LB)
        replace RB := keep K ((heap_old _ _ (blk_lt RB)).trans RB)
        replace TH := keep K ((heap_old _ _ (blk_lt TH)).trans TH)
        replace H := bw_trans (bw_alloc H _) K
        clear t0 t1 t2 t3 t4 t5 l0 l1 K hs3
        have zf := blk_lt FB
        have zl3 := blk_lt LB
        obtain ⟨u0, u1⟩ := blk_2 FB
        go_wp2_with fail
        clear u0 u1 FB zf zl zl3 zt
        rw [rounds_succ]
        obtain ⟨l0, l1⟩ := blk_2 LB
        have zl := blk_lt LB
        have zr := blk_lt RB
        obtain ⟨q0, q1, qf0, qf1⟩ := blkF RB
        have R2 := setF2 RB (u0 := .int .i64 f1.1) (u1 := .int .i64 f1.2)
        obtain ⟨r0, r1⟩ := blk_2 R2
        have HB : Hid _ := H
        have e1 : Hid (mnA f0 f1 f2 f3 = f1) := by change _ = _; unfold mnA; rw [m1, m2, m3]
        clear R2 RB LB TH H m1 m2 m3
        go_wp2_with fail
        exact bodyPost_ret (v := .agg #[.int .i64 f1.1, .int .i64 f1.2]) (by simp [results, Tryd.results46, go_sem, r0, r1]) rfl ⟨by rw [e1.out], by repeat (first | with_reducible exact HB.out | with_reducible refine bw_set ?_ (by dsimp only; omega) _)⟩
  · have m1 : mn f0 f1 = f0 := if_neg c1
    have g1 := cmpI_ge _ _ c1
    generalize hx1 : cmpI (f1.1 * f0.2) (f0.1 * f1.2) = x1 at g1
    have HX1 : Hid (cmpI (f1.1 * f0.2) (f0.1 * f1.2) = x1) := hx1
    have p1 : 0 ≤ x1 := by omega
    clear hx1 g1
    clear c1
    go_wp2_with fail
    refine (fracCmp_both f1.1 f1.2 f0.1 f0.2 ad _ (hs1.below (bw_alloc (bw_refl _) _)) o1 o0).mono ?_
    rw [HX1.out]
    rintro e w1 ⟨rfl, K⟩
    have FB := keep K (heap_new _ _)
    replace LB := keep K ((heap_old _ _ (blk_lt LB)).trans LB)
    replace RB := keep K ((heap_old _ _ (blk_lt RB)).trans RB)
    replace TH := keep K ((heap_old _ _ (blk_lt TH)).trans TH)
    replace H := bw_trans (bw_alloc H _) K
    clear t0 t1 t2 t3 t4 t5 l0 l1 K hs1
    have zf := blk_lt FB
    have zl1 := blk_lt LB
    obtain ⟨u0, u1⟩ := blk_2 FB
    go_wp2_with fail
    clear u0 u1 FB zf zl zl1 zt
    rw [rounds_succ]
    obtain ⟨t0, t1, t2, t3, t4, t5⟩ := blk_6 TH
    obtain ⟨l0, l1⟩ := blk_2 LB
    have zl := blk_lt LB
    have zt := blk_lt TH
    have hs2 := h0.below H
    by_cases c2 : f2.1 * f0.2 < f0.1 * f2.2
    · have m2 : mn f0 f2 = f2 := if_pos c2
      have e2 := cmpI_lt _ _ c2
      clear c2
      go_wp2_with fail
      refine (fracCmp_both f2.1 f2.2 f0.1 f0.2 ad _ (hs2.below (bw_alloc (bw_refl _) _)) o2 o0).mono ?_
      rw [e2]
      rintro e w2 ⟨rfl, K⟩
      have FB := keep K (heap_new _ _)
      replace LB := keep K ((heap_old _ _ (blk_lt LB)).trans LB)
      replace RB := keep K ((heap_old _ _ (blk_lt RB)).trans RB)
      replace TH := keep K ((heap_old _ _ (blk_lt TH)).trans TH)
      replace H := bw_trans (bw_alloc H _) K
      clear t0 t1 t2 t3 t4 t5 l0 l1 K hs2
      have zf := blk_lt FB
      have zl2 := blk_lt LB
      obtain ⟨u0, u1⟩ := blk_2 FB
      obtain ⟨q0, q1, qf0, qf1⟩ := blkF LB
      go_wp2_with fail
      replace LB := setF2 LB (u0 := .int .i64 f2.1) (u1 := .int .i64 f2.2)
      replace RB := setO2 RB (b := w.heap.size + 2) (i := 0) (j := 1) (v := .int .i64 f2.1) (u := .int .i64 f2.2) (by omega)
      replace TH := setO2 TH (b := w.heap.size + 2) (i := 0) (j := 1) (v := .int .i64 f2.1) (u := .int .i64 f2.2) (by omega)
      replace H := bw_set (bw_set H (p := ⟨w.heap.size + 2, 0, none⟩) (by dsimp only; omega) (.int .i64 f2.1)) (p := ⟨w.heap.size + 2, 1, none⟩) (by dsimp only; omega) (.int .i64 f2.2)
      clear q0 q1 qf0 qf1 e2
      generalize ((w2.setCell ⟨w.heap.size + 2, 0, none⟩ (.int .i64 f2.1)).setCell ⟨w.heap.size + 2, 1, none⟩ (.int .i64 f2.2)) = V2 at LB RB TH H ⊢
      clear u0 u1 FB zf zl zl2 zt
      rw [rounds_succ]
      obtain ⟨t0, t1, t2, t3, t4, t5⟩ := blk_6 TH
      obtain ⟨l0, l1⟩ := blk_2 LB
      have zl := blk_lt LB
      have zt := blk_lt TH
      have hs3 := h0.below H
      by_cases c3 : f3.1 * f2.2 < f2.1 * f3.2
      · have m3 : mn f2 f3 = f3 := if_pos c3
        have e3 := cmpI_lt _ _ c3
        clear c3
        go_wp2_with fail
        refine (fracCmp_both f3.1 f3.2 f2.1 f2.2 ad _ (hs3.below (bw_alloc (bw_refl _) _)) o3 o2).mono ?_
        rw [e3]
        rintro e w3 ⟨rfl, K⟩
        have FB := keep K (heap_new _ _)
        replace LB := keep K ((heap_old _ _ (blk_lt LB)).trans LB)
        replace RB := keep K ((heap_old _ _ (blk_lt RB)).trans RB)
        replace TH := keep K ((heap_old _ _ (blk_lt TH)).trans TH)
        replace H := bw_trans (bw_alloc H _) K
        clear t0 t1 t2 t3 t4 t5 l0 l1 K hs3
        have zf := blk_lt FB
        have zl3 := blk_lt LB
        obtain ⟨u0, u1⟩ := blk_2 FB
        obtain ⟨q0, q1, qf0, qf1⟩ := blkF LB
        go_wp2_with fail
        replace LB := setF2 LB (u0 := .int .i64 f3.1) (u1 := .int .i64 f3.2)
        replace RB := setO2 RB (b := w.heap.size + 2) (i := 0) (j := 1) (v := .int .i64 f3.1) (u := .int .i64 f3.2) (by omega)
        replace TH := setO2 TH (b := w.heap.size + 2) (i := 0) (j := 1) (v := .int .i64 f3.1) (u := .int .i64 f3.2) (by omega)
        replace H := bw_set (bw_set H (p := ⟨w.heap.size + 2, 0, none⟩) (by dsimp only; omega) (.int .i64 f3.1)) (p := ⟨w.heap.size + 2, 1, none⟩) (by dsimp only; omega) (.int .i64 f3.2)
        clear q0 q1 qf0 qf1 e3
        generalize ((w3.setCell ⟨w.heap.size + 2, 0, none⟩ (.int .i64 f3.1)).setCell ⟨w.heap.size + 2, 1, none⟩ (.int .i64 f3.2)) = V3 at LB RB TH H ⊢
        clear u0 u1 FB zf zl zl3 zt
        rw [rounds_succ]
        obtain ⟨l0, l1⟩ := blk_2 LB
        have zl := blk_lt LB
        have zr := blk_lt RB
        obtain ⟨q0, q1, qf0, qf1⟩ := blkF RB
        have R2 := setF2 RB (u0 := .int .i64 f3.1) (u1 := .int .i64 f3.2)
        obtain ⟨r0, r1⟩ := blk_2 R2
        have HB : Hid _ := H
        have e1 : Hid (mnA f0 f1 f2 f3 = f3) := by change _ = _; unfold mnA; rw [m1, m2, m3]
        clear R2 RB LB TH H m1 m2 m3
        go_wp2_with fail
        exact bodyPost_ret (v := .agg #[.int .i64 f3.1, .int .i64 f3.2]) (by simp [results, Tryd.results46, go_sem, r0, r1]) rfl ⟨by rw [e1.out], by repeat (first | with_reducible exact HB.out | with_reducible refine bw_set ?_ (by dsimp only; omega) _)⟩
      · have m3 : mn f2 f3 = f2 := if_neg c3
        have g3 := cmpI_ge _ _ c3
        generalize hx3 : cmpI (f3.1 * f2.2) (f2.1 * f3.2) = x3 at g3
        have HX3 : Hid (cmpI (f3.1 * f2.2) (f2.1 * f3.2) = x3) := hx3
        have p3 : 0 ≤ x3 := by omega
        clear hx3 g3
        clear c3
        go_wp2_with fail
        refine (fracCmp_both f3.1 f3.2 f2.1 f2.2 ad _ (hs3.below (bw_alloc (bw_refl _) _)) o3 o2).mono ?_
        rw [HX3.out]
        rintro e w3 ⟨rfl, K⟩
        have FB := keep K (heap_new _ _)
        replace LB := keep K ((heap_old _ _ (blk_lt LB)).trans LB)
        replace RB := keep K ((heap_old _ _ (blk_lt RB)).trans RB)
        replace TH := keep K ((heap_old _ _ (blk_lt TH)).trans TH)
        replace H := bw_trans (bw_alloc H _) K
        clear t0 t1 t2 t3 t4 t5 l0 l1 K hs3
        have zf := blk_lt FB
        have zl3 := blk_lt LB
        obtain ⟨u0, u1⟩ := blk_2 FB
        go_wp2_with fail
        clear u0 u1 FB zf zl zl3 zt
        rw [rounds_succ]
        obtain ⟨l0, l1⟩ := blk_2 LB
        have zl := blk_lt LB
        have zr := blk_lt RB
        obtain ⟨q0, q1, qf0, qf1⟩ := blkF RB
        have R2 := setF2 RB (u0 := .int .i64 f2.1) (u1 := .int .i64 f2.2)
        obtain ⟨r0, r1⟩ := blk_2 R2
        have HB : Hid _ := H
        have e1 : Hid (mnA f0 f1 f2 f3 = f2) := by change _ = _; unfold mnA; rw [m1, m2, m3]
        clear R2 RB LB TH H m1 m2 m3
        go_wp2_with fail
        exact bodyPost_ret (v := .agg #[.int .i64 f2.1, .int .i64 f2.2]) (by simp [results, Tryd.results46, go_sem, r0, r1]) rfl ⟨by rw [e1.out], by repeat (first | with_reducible exact HB.out | with_reducible refine bw_set ?_ (by dsimp only; omega) _)⟩
    · have m2 : mn f0 f2 = f0 := if_neg c2
      have g2 := cmpI_ge _ _ c2
      generalize hx2 : cmpI (f2.1 * f0.2) (f0.1 * f2.2) = x2 at g2
      have HX2 : Hid (cmpI (f2.1 * f0.2) (f0.1 * f2.2) = x2) := hx2
      have p2 : 0 ≤ x2 := by omega
      clear hx2 g2
      clear c2
      go_wp2_with fail
      refine (fracCmp_both f2.1 f2.2 f0.1 f0.2 ad _ (hs2.below (bw_alloc (bw_refl _) _)) o2 o0).mono ?_
      rw [HX2.out]
      rintro e w2 ⟨rfl, K⟩
      have FB := keep K (heap_new _ _)
      replace LB := keep K ((heap_old _ _ (blk_lt LB)).trans LB)
      replace RB := keep K ((heap_old _ _ (blk_lt RB)).trans RB)
      replace TH := keep K ((heap_old _ _ (blk_lt TH)).trans TH)
      replace H := bw_trans (bw_alloc H _) K
      clear t0 t1 t2 t3 t4 t5 l0 l1 K hs2
      have zf := blk_lt FB
      have zl2 := blk_lt LB
      obtain ⟨u0, u1⟩ := blk_2 FB
      go_wp2_with fail
      clear u0 u1 FB zf zl zl2 zt
      rw [rounds_succ]
      obtain ⟨t0, t1, t2, t3, t4, t5⟩ := blk_6 TH
      obtain ⟨l0, l1⟩ := blk_2 LB
      have zl := blk_lt LB
      have zt := blk_lt TH
      have hs3 := h0.below H
      by_cases c3 : f3.1 * f0.2 < f0.1 * f3.2
      · have m3 : mn f0 f3 = f3 := if_pos c3
        have e3 := cmpI_lt _ _ c3
        clear c3
        go_wp2_with fail
        refine (fracCmp_both f3.1 f3.2 f0.1 f0.2 ad _ (hs3.below (bw_alloc (bw_refl _) _)) o3 o0).mono ?_
        rw [e3]
        rintro e w3 ⟨rfl, K⟩
        have FB := keep K (heap_new _ _)
        replace LB := keep K ((heap_old _ _ (blk_lt LB)).trans LB)
        replace RB := keep K ((heap_old _ _ (blk_lt RB)).trans RB)
        replace TH := keep K ((heap_old _ _ (blk_lt TH)).trans TH)
        replace H := bw_trans (bw_alloc H _) K
        clear t0 t1 t2 t3 t4 t5 l0 l1 K hs3
        have zf := blk_lt FB
        have zl3 := blk_lt LB
        obtain ⟨u0, u1⟩ := blk_2 FB
        obtain ⟨q0, q1, qf0, qf1⟩ := blkF LB
        go_wp2_with fail
        replace LB := setF2 LB (u0 := .int .i64 f3.1) (u1 := .int .i64 f3.2)
        replace RB := setO2 RB (b := w.heap.size + 2) (i := 0) (j := 1) (v := .int .i64 f3.1) (u := .int .i64 f3.2) (by omega)
        replace TH := setO2 TH (b := w.heap.size + 2) (i := 0) (j := 1) (v := .int .i64 f3.1) (u := .int .i64 f3.2) (by omega)
        replace H := bw_set (bw_set H (p := ⟨w.heap.size + 2, 0, none⟩) (by dsimp only; omega) (.int .i64 f3.1)) (p := ⟨w.heap.size + 2, 1, none⟩) (by dsimp only; omega) (.int .i64 f3.2)
        clear q0 q1 qf0 qf1 e3
        generalize ((w3.setCell ⟨w.heap.size + 2, 0, none⟩ (.int .i64 f3.1)).setCell ⟨w.heap.size + 2, 1, none⟩ (.int .i64 f3.2)) = V3 at LB RB TH H ⊢
        clear u0 u1 FB zf zl zl3 zt
        rw [rounds_succ]
        obtain ⟨l0, l1⟩ := blk_2 LB
        have zl := blk_lt LB
        have zr := blk_lt RB
        obtain ⟨q0, q1, qf0, qf1⟩ := blkF RB
        have R2 := setF2 RB (u0 := .int .i64 f3.1) (u1 := .int .i64 f3.2)
        obtain ⟨r0, r1⟩ := blk_2 R2
        have HB : Hid _ := H
        have e1 : Hid (mnA f0 f1 f2 f3 = f3) := by change _ = _; unfold mnA; rw [m1, m2, m3]
        clear R2 RB LB TH H m1 m2 m3
        go_wp2_with fail
        exact bodyPost_ret (v := .agg #[.int .i64 f3.1, .int .i64 f3.2]) (by simp [results, Tryd.results46, go_sem, r0, r1]) rfl ⟨by rw [e1.out], by repeat (first | with_reducible exact HB.out | with_reducible refine bw_set ?_ (by dsimp only; omega) _)⟩
      · have m3 : mn f0 f3 = f0 := if_neg c3
        have g3 := cmpI_ge _ _ c3
        generalize hx3 : cmpI (f3.1 * f0.2) (f0.1 * f3.2) = x3 at g3
        have HX3 : Hid (cmpI (f3.1 * f0.2) (f0.1 * f3.2) = x3) := hx3
        have p3 : 0 ≤ x3 := by omega
        clear hx3 g3
        clear c3
        go_wp2_with fail
        refine (fracCmp_both f3.1 f3.2 f0.1 f0.2 ad _ (hs3.below (bw_alloc (bw_refl _) _)) o3 o0).mono ?_
        rw [HX3.out]
        rintro e w3 ⟨rfl, K⟩
        have FB := keep K (heap_new _ _)
        replace LB := keep K ((heap_old _ _ (blk_lt LB)).trans LB)
        replace RB := keep K ((heap_old _ _ (blk_lt RB)).trans RB)
        replace TH := keep K ((heap_old _ _ (blk_lt TH)).trans TH)
        replace H := bw_trans (bw_alloc H _) K
        clear t0 t1 t2 t3 t4 t5 l0 l1 K hs3
        have zf := blk_lt FB
        have zl3 := blk_lt LB
        obtain ⟨u0, u1⟩ := blk_2 FB
        go_wp2_with fail
        clear u0 u1 FB zf zl zl3 zt
        rw [rounds_succ]
        obtain ⟨l0, l1⟩ := blk_2 LB
        have zl := blk_lt LB
        have zr := blk_lt RB
        obtain ⟨q0, q1, qf0, qf1⟩ := blkF RB
        have R2 := setF2 RB (u0 := .int .i64 f0.1) (u1 := .int .i64 f0.2)
        obtain ⟨r0, r1⟩ := blk_2 R2
        have HB : Hid _ := H
        have e1 : Hid (mnA f0 f1 f2 f3 = f0) := by change _ = _; unfold mnA; rw [m1, m2, m3]
        clear R2 RB LB TH H m1 m2 m3
        go_wp2_with fail
        exact bodyPost_ret (v := .agg #[.int .i64 f0.1, .int .i64 f0.2]) (by simp [results, Tryd.results46, go_sem, r0, r1]) rfl ⟨by rw [e1.out], by repeat (first | with_reducible exact HB.out | with_reducible refine bw_set ?_ (by dsimp only; omega) _)⟩
end Go.Proofs.YtlikfcfblkckaaaDoor
namespace Go.Proofs.YtlikfcfblkckaaaDoor
open Go.RowKit Go.Sort

def frAt (fs : List (Int × Int)) (j : Nat) : Int × Int := fs[j]?.getD (0, 1)
theorem fold_take (fs : List (Int × Int)) (f0 : Int × Int) (k : Nat) (hk : k < fs.length) : (fs.take (k + 1)).foldl mn f0 = mn ((fs.take k).foldl mn f0) (frAt fs k) := by
  rw [List.take_add_one, List.foldl_append, List.getElem?_eq_getElem hk]; simp [frAt, hk]
theorem fold_ok (fs : List (Int × Int)) (f0 : Int × Int) (h0 : OkF f0) (hfs : ∀ f ∈ fs, OkF f) : OkF (fs.foldl mn f0) := by
  induction fs generalizing f0 with
  | nil => exact h0
  | cons f fs ih => exact ih _ (mn_ok h0 (hfs f (by simp))) (fun g hg => hfs g (by simp [hg]))
set_option maxRecDepth 100000 in
set_option maxHeartbeats 2000000 in
theorem leastRow_ok (f0 : Int × Int) (fs : List (Int × Int)) (b off len cap : Nat) (ad : Addr) (w : World) (h0 : Sent ad w) (o0 : OkF f0) (hfs : ∀ f ∈ fs, OkF f) (hl : Hid (fs.length = len)) (hlen : len ≤ 1000) (hb : b < w.heap.size)
    (hc : ∀ j, j < len → w.cell? ⟨b, off + j * 2, none⟩ = some (.int .i64 (frAt fs j).1) ∧ w.cell? ⟨b, off + j * 2 + 1, none⟩ = some (.int .i64 (frAt fs j).2)) :
    Calls Tryd.prog 46 #[.agg #[.int .i64 f0.1, .int .i64 f0.2], .slice (some ⟨b, off, none⟩) len cap] w fun e w' => e = .returned (.agg #[.int .i64 (fs.foldl mn f0).1, .int .i64 (fs.foldl mn f0).2]) ∧ Below w.heap.size w w' := by
  obtain ⟨W, hW, H, _, RB, LB⟩ := boxes3 w (.cells #[.int .i64 f0.1, .int .i64 f0.2] 32) (.cells #[.int .i64 0, .int .i64 0] 32) (.cells #[.int .i64 f0.1, .int .i64 f0.2] 32)
  have HT : Hid (∀ k, k < len → (fs.take (k + 1)).foldl mn f0 = mn ((fs.take k).foldl mn f0) (frAt fs k)) := fun k hk => fold_take fs f0 k (by rw [hl.out]; exact hk)
  have HOK : Hid (∀ k, OkF ((fs.take k).foldl mn f0)) := fun k => fold_ok _ _ o0 (fun f hf => hfs f (List.mem_of_mem_take hf))
  have HO2 : Hid (∀ k, k < len → OkF (frAt fs k)) := fun k hk => hfs _ (by unfold frAt; rw [List.getElem?_eq_getElem (by rw [hl.out]; exact hk), Option.getD_some]; exact List.getElem_mem _)
  go_enter Tryd.func46, Tryd.ntmps46
  go_upto_region 3 with fail
  rw [← hW]
  clear hW
  go_loopw [11] (fun i wr => ∃ (k : Nat) (m : Int × Int), k ≤ len ∧ i = .int .i64 k ∧ m = (fs.take k).foldl mn f0 ∧ wr.heap[w.heap.size + 2]? = some (.cells #[.int .i64 m.1, .int .i64 m.2] 32 (0, 0)) ∧ wr.heap[w.heap.size + 1]? = some (.cells #[.int .i64 0, .int .i64 0] 32 (0, 0)) ∧ Below w.heap.size w wr) (fun i _ => len - (intOf i).toNat)
  case atStart => exact ⟨0, f0, Nat.zero_le _, rfl, rfl, LB, RB, H⟩
  case round =>
    obtain ⟨k, m, hk, rfl, hm, LB, RB, H⟩ := hrel
    have hs1 := h0.below H
    have zl := blk_lt LB
    by_cases hlt : k < len
    case neg =>
      obtain rfl : len = k := by omega
      rw [List.take_of_length_le (by rw [hl.out]; exact Nat.le_refl _)] at hm
      obtain ⟨l0, l1⟩ := blk_2 LB
      obtain ⟨q0, q1, qf0, qf1⟩ := blkF RB
      have RB2 := setF2 RB (u0 := .int .i64 m.1) (u1 := .int .i64 m.2)
      obtain ⟨v0, v1⟩ := blk_2 RB2
      have HM : Hid (m = fs.foldl mn f0) := hm
      clear hm
      go_wp2_with fail
      refine bodyPost_ret (v := .agg #[.int .i64 m.1, .int .i64 m.2]) (by simp [results, Tryd.results46, go_sem, v0, v1]) rfl ⟨by rw [HM.out], ?_⟩
      exact bw_set (bw_set H (p := ⟨w.heap.size + 1, 0, none⟩) (by dsimp only; omega) _) (p := ⟨w.heap.size + 1, 1, none⟩) (by dsimp only; omega) _
    case pos =>
      have om : OkF m := by rw [hm]; exact HOK.out k
      have og := HO2.out k hlt
      have hst := HT.out k hlt
      rw [← hm] at hst
      clear hm
      obtain ⟨c0, c1⟩ := hc k hlt
      have d0 := (H.cell (p := ⟨b, off + k * 2, none⟩) hb).trans c0
      have d1 := (H.cell (p := ⟨b, off + k * 2 + 1, none⟩) hb).trans c1
      obtain ⟨l0, l1⟩ := blk_2 LB
      have i0 : (0 : Int) ≤ (k : Int) := Int.natCast_nonneg _
      have i1 : (k : Int) < (len : Int) := by omega
      have k9 : (k : Int) ≤ 1000 := by omega
      generalize frAt fs k = g at *
      have HS : Hid ((fs.take (k + 1)).foldl mn f0 = mn m g) := hst
      clear hst c0 c1
      by_cases c : g.1 * m.2 < m.1 * g.2
      · have m1 : mn m g = g := if_pos c
        have e1 := cmpI_lt _ _ c
        clear c
        go_wp2_with fail
        refine (fracCmp_both g.1 g.2 m.1 m.2 ad _ (hs1.below (bw_alloc (bw_refl _) _)) og om).mono ?_
        rw [e1]
        rintro e w1 ⟨rfl, K⟩
        have FB := keep K (heap_new _ _)
        replace LB := keep K ((heap_old _ _ (blk_lt LB)).trans LB)
        replace RB := keep K ((heap_old _ _ (blk_lt RB)).trans RB)
        replace H := bw_trans (bw_alloc H _) K
        clear l0 l1 K hs1 d0 d1
        have zf := blk_lt FB
        obtain ⟨u0, u1⟩ := blk_2 FB
        obtain ⟨q0, q1, qf0, qf1⟩ := blkF LB
        go_wp2_with fail
        have LB2 := setF2 LB (u0 := .int .i64 g.1) (u1 := .int .i64 g.2)
        have RB2 := setO2 RB (b := w.heap.size + 2) (i := 0) (j := 1) (v := .int .i64 g.1) (u := .int .i64 g.2) (by omega)
        have H2 := bw_set (bw_set H (p := ⟨w.heap.size + 2, 0, none⟩) (by dsimp only; omega) (.int .i64 g.1)) (p := ⟨w.heap.size + 2, 1, none⟩) (by dsimp only; omega) (.int .i64 g.2)
        go_roundw
        case rel => exact ⟨k + 1, g, by omega, by simp, by rw [HS.out, m1], LB2, RB2, H2⟩
        case measure => simp [intOf]; omega
      · have m1 : mn m g = m := if_neg c
        have e1 := cmpI_ge _ _ c
        obtain ⟨x, hx⟩ : ∃ x, cmpI (g.1 * m.2) (m.1 * g.2) = x := ⟨_, rfl⟩
        rw [hx] at e1
        clear c
        have hcall := fracCmp_both g.1 g.2 m.1 m.2 ad (wr.alloc (.cells #[.int .i64 g.1, .int .i64 g.2] 32)) (hs1.below (bw_alloc (bw_refl _) _)) og om
        rw [hx] at hcall
        clear hx
        go_wp2_with fail
        refine hcall.mono ?_
        rintro e w1 ⟨rfl, K⟩
        replace LB := keep K ((heap_old _ _ (blk_lt LB)).trans LB)
        replace RB := keep K ((heap_old _ _ (blk_lt RB)).trans RB)
        replace H := bw_trans (bw_alloc H _) K
        clear l0 l1 K hs1 d0 d1
        go_wp2_with fail
        go_roundw
        case rel => exact ⟨k + 1, m, by omega, by simp, by rw [HS.out, m1], LB, RB, H⟩
        case measure => simp [intOf]; omega
end Go.Proofs.YtlikfcfblkckaaaDoor
namespace Go.Proofs.YtlikfcfblkckaaaDoor

/-- The least of some fractions. -/
def leastL : List (Int × Int) → Int × Int
  | [] => (0, 0)
  | f :: fs => fs.foldl mn f
/-- It is one of them, and not more than any. -/
structure LeastOf (m : Int × Int) (fs : List (Int × Int)) : Prop where
  mem : m ∈ fs
  le : ∀ f ∈ fs, LeF m f
theorem foldl_mn (fs : List (Int × Int)) : ∀ (f0 : Int × Int), OkF f0 → (∀ f ∈ fs, OkF f) → LeastOf (fs.foldl mn f0) (f0 :: fs) ∧ OkF (fs.foldl mn f0) := by
  induction fs with
  | nil => intro f0 h0 _; exact ⟨⟨by simp, fun f hf => by simp at hf; rw [hf]; exact LeF.refl _⟩, h0⟩
  | cons g fs ih =>
    intro f0 h0 h
    have hg := h g (by simp)
    have ho := mn_ok h0 hg
    obtain ⟨⟨h1, h2⟩, h3⟩ := ih (mn f0 g) ho (fun f hf => h f (by simp [hf]))
    refine ⟨⟨?_, fun f hf => ?_⟩, h3⟩
    · rcases List.mem_cons.1 h1 with e | e
      · rcases mn_mem f0 g with e2 | e2
        · rw [List.foldl_cons, e, e2]; simp
        · rw [List.foldl_cons, e, e2]; simp
      · exact List.mem_cons_of_mem _ (List.mem_cons_of_mem _ e)
    · have hm := h2 (mn f0 g) (by simp)
      rcases List.mem_cons.1 hf with e | e
      · subst e; exact LeF.trans h3 ho h0 hm (mn_le1 _ _)
      · rcases List.mem_cons.1 e with e | e
        · subst e; exact LeF.trans h3 ho hg hm (mn_le2 _ _)
        · exact h2 f (List.mem_cons_of_mem _ e)
theorem leastL_of {fs : List (Int × Int)} (hne : fs ≠ []) (h : ∀ f ∈ fs, OkF f) : LeastOf (leastL fs) fs := by
  cases fs with
  | nil => exact absurd rfl hne
  | cons f fs => exact (foldl_mn fs f (h f (by simp)) (fun g hg => h g (by simp [hg]))).1
theorem leastL_ok {fs : List (Int × Int)} (hne : fs ≠ []) (h : ∀ f ∈ fs, OkF f) : OkF (leastL fs) := h _ (leastL_of hne h).mem
theorem LeastOf.unique {m m' : Int × Int} {fs : List (Int × Int)} (h : ∀ f ∈ fs, OkF f) (a : LeastOf m fs) (b : LeastOf m' fs) : m = m' :=
  LeF.antisymm (h _ a.mem) (h _ b.mem) (a.le _ b.mem) (b.le _ a.mem)
theorem LeastOf.congr {m : Int × Int} {fs gs : List (Int × Int)} (a : LeastOf m fs) (h : ∀ f, f ∈ fs ↔ f ∈ gs) : LeastOf m gs := ⟨(h _).1 a.mem, fun f hf => a.le f ((h f).2 hf)⟩
theorem leastL_congr {fs gs : List (Int × Int)} (hok : ∀ f ∈ fs, OkF f) (h : ∀ f, f ∈ fs ↔ f ∈ gs) : leastL fs = leastL gs := by
  cases fs with
  | nil => cases gs with
    | nil => rfl
    | cons g gs => exact absurd ((h g).2 (by simp)) (by simp)
  | cons f fs =>
    have hgs : gs ≠ [] := by rintro rfl; exact absurd ((h f).1 (by simp)) (by simp)
    exact ((leastL_of (by simp) hok).congr h).unique (fun g hg => hok g ((h g).2 hg)) (leastL_of hgs fun g hg => hok g ((h g).2 hg))
/-- The least of more is the least of both leasts. -/
theorem leastL_append {fs gs : List (Int × Int)} (hf : fs ≠ []) (hg : gs ≠ []) (okf : ∀ f ∈ fs, OkF f) (okg : ∀ f ∈ gs, OkF f) : leastL (fs ++ gs) = mn (leastL fs) (leastL gs) := by
  have a := leastL_of hf okf
  have b := leastL_of hg okg
  have ok : ∀ f ∈ fs ++ gs, OkF f := fun f h => (List.mem_append.1 h).elim (okf f) (okg f)
  refine (leastL_of (by simp [hf]) ok).unique ok ⟨?_, fun f h => ?_⟩
  · rcases mn_mem (leastL fs) (leastL gs) with e | e
    · rw [e]; exact List.mem_append_left _ a.mem
    · rw [e]; exact List.mem_append_right _ b.mem
  · have oa := okf _ a.mem
    have ob := okg _ b.mem
    rcases List.mem_append.1 h with h | h
    · exact LeF.trans (mn_ok oa ob) oa (okf f h) (mn_le1 (leastL fs) (leastL gs)) (a.le f h)
    · exact LeF.trans (mn_ok oa ob) ob (okg f h) (mn_le2 (leastL fs) (leastL gs)) (b.le f h)
end Go.Proofs.YtlikfcfblkckaaaDoor
namespace Go.Proofs.YtlikfcfblkckaaaDoor
open Go.RowKit Go.Sort

theorem frCells_at (fs : List (Int × Int)) (j : Nat) (hj : j < fs.length) : (frCells fs)[j * 2]? = some (.int .i64 (frAt fs j).1) ∧ (frCells fs)[j * 2 + 1]? = some (.int .i64 (frAt fs j).2) := by
  induction fs generalizing j with
  | nil => simp at hj
  | cons f fs ih =>
    have e : frCells (f :: fs) = .int .i64 f.1 :: .int .i64 f.2 :: frCells fs := by simp [frCells]
    cases j with
    | zero => rw [e]; exact ⟨rfl, rfl⟩
    | succ j =>
      have := ih j (by simpa using hj)
      have e1 : (j + 1) * 2 = j * 2 + 1 + 1 := by omega
      rw [e, e1]
      simpa [frAt] using this
set_option maxRecDepth 100000 in
set_option maxHeartbeats 2000000 in
theorem boardFar_any (b : Nat) (rs : List RingT) (p : P2) (ad : Addr) (w : World) (h0 : Sent ad w) (hR : RingN w.heap.size w (some ⟨b, 0, none⟩) rs) (hes : (edgR rs).length ≤ 1000) (he1 : 2 ≤ (edgR rs).length) (hok : ∀ s ∈ edgR rs, OkF (farS p s)) :
    Calls Tryd.prog 21 #[.pointer (some ⟨b, 0, none⟩), .agg #[.int .i64 p.1, .int .i64 p.2]] w fun e W' => e = .returned (.agg #[.int .i64 (leastL ((edgR rs).map (farS p))).1, .int .i64 (leastL ((edgR rs).map (farS p))).2]) ∧ Below w.heap.size w W' := by
  obtain ⟨W, hW, BW, T, RB⟩ := boxes2 w (.cells #[.int .i64 p.1, .int .i64 p.2] 28) (.cells #[.int .i64 0, .int .i64 0] 32)
  obtain ⟨M, hM⟩ : ∃ M, (edgR rs).length = M := ⟨_, rfl⟩
  have hcall := callsIn_wide.1 (fars_in 12 (Nat.le_refl _) b rs p ad W (h0.below BW) (by have := hR.keep BW; exact RingL.ringN (Nat.le_refl _) (RingL.grow BW.size this.ringL)) hes)
  obtain ⟨fs, hfs⟩ : ∃ fs, (edgR rs).map (farS p) = fs := ⟨_, rfl⟩
  have hfl : fs.length = M := by rw [← hfs, List.length_map, hM]
  have hfo : ∀ f ∈ fs, OkF f := by intro f hf; rw [← hfs] at hf; obtain ⟨s, hs, rfl⟩ := List.mem_map.1 hf; exact hok s hs
  rw [hfs, hM] at hcall
  rw [hM] at hes he1
  rw [hfs]
  obtain ⟨r, hr⟩ : ∃ r, leastL fs = r := ⟨_, rfl⟩
  rw [hr]
  have Hr : Hid (leastL fs = r) := hr
  clear hfs hok hr
  obtain ⟨t0, t1⟩ := blk_2 T
  go_enter Tryd.func21, Tryd.ntmps21
  go_upto_region 1 with fail
  rw [← hW]
  clear hW
  go_wp2_with fail
  refine hcall.mono ?_
  rintro e w1 ⟨v, rfl, ho, J⟩
  have ho' := ho
  rcases ho.2 with ⟨_, hz⟩ | ⟨g, c, cur, rfl, hgb, hg, hMc, hcm, _⟩
  · omega
  have zg := (Array.getElem?_eq_some_iff.1 hg).1
  have hc := ho'.cells (g := g) rfl
  have add : ∀ k : Nat, (⟨g, 0, none⟩ : Addr).add k = ⟨g, k, none⟩ := fun k => by unfold Addr.add; split <;> simp_all
  have hcell : ∀ j, j < M → w1.cell? ⟨g, j * 2, none⟩ = some (.int .i64 (frAt fs j).1) ∧ w1.cell? ⟨g, j * 2 + 1, none⟩ = some (.int .i64 (frAt fs j).2) := fun j hj => by
    obtain ⟨a0, a1⟩ := frCells_at fs j (by omega)
    have d0 := hc _ _ a0
    have d1 := hc _ _ a1
    rw [add] at d0 d1
    exact ⟨d0, d1⟩
  obtain ⟨f, fs', rfl⟩ : ∃ f fs', fs = f :: fs' := by
    cases fs with
    | nil => simp at hfl; omega
    | cons f fs' => exact ⟨f, fs', rfl⟩
  obtain ⟨d0, d1⟩ := hcell 0 (by omega)
  simp only [Nat.zero_mul, Nat.zero_add, frAt, List.getElem?_cons_zero, Option.getD_some] at d0 d1
  have i1 : (0 : Int) < (M : Int) := by omega
  have i4 : 0 < M := by omega
  have hgne : g ≠ w.heap.size + 1 := by have := blk_lt RB; omega
  have i2 : (1 : Int) ≤ (M : Int) := by omega
  have i3 : (M : Int) ≤ (c : Int) := by omega
  have zW := BW.size
  have RB1 := keep J RB
  have zR := blk_lt RB
  have hl' : Hid (fs'.length = M - 1) := by change _ = _; simp at hfl; omega
  have hcl : ∀ j, j < M - 1 → w1.cell? ⟨g, 2 + j * 2, none⟩ = some (.int .i64 (frAt fs' j).1) ∧ w1.cell? ⟨g, 2 + j * 2 + 1, none⟩ = some (.int .i64 (frAt fs' j).2) := fun j hj => by
    have := hcell (j + 1) (by omega)
    rw [show (j + 1) * 2 = 2 + j * 2 by omega] at this
    simpa [frAt] using this
  have hs1 := (h0.below BW).below J
  have B2 : Below w1.heap.size w1 w1.drew := bw_drew (bw_refl _)
  have hL := fun cap => leastRow_ok f fs' g 2 (M - 1) cap ad w1.drew (hs1.below B2) (hfo f (by simp)) (fun x hx => hfo x (by simp [hx])) hl' (by omega) zg hcl
  have e1 : ((M : Int) - 1).toNat = M - 1 := by omega
  have c1' : (c = 1) = False := by simp; omega
  have RBd := RB1
  obtain ⟨q0, q1, qf0, qf1⟩ := blkF RB1
  have hr : fs'.foldl mn f = r := Hr.out
  rw [hr] at hL
  clear hcell hc ho ho' hr
  go_wp2_with fail
  go_region_held3 (fun w' => w'.cell? ⟨g, 0, none⟩ = some (.int .i64 f.1) ∧ w'.cell? ⟨g, 1, none⟩ = some (.int .i64 f.2))
    (first | go_keep | exact ⟨(J2.cell (p := ⟨g, 0, none⟩) zg).trans d0, (J2.cell (p := ⟨g, 1, none⟩) zg).trans d1⟩ | exact ⟨cellS2 ((J2.cell (p := ⟨g, 0, none⟩) zg).trans d0) hgne, cellS2 ((J2.cell (p := ⟨g, 1, none⟩) zg).trans d1) hgne⟩)
    ((go_at_call 46; refine (hL _).mono ?_; rintro e w2 ⟨rfl, J2⟩; have RB2 : w2.heap[w.heap.size + 1]? = some (.cells #[.int .i64 0, .int .i64 0] 32 (0, 0)) := keep J2 RBd; obtain ⟨x0, x1, xf0, xf1⟩ := blkF RB2))
  have RB3 := setF2 RB2 (u0 := .int .i64 r.1) (u1 := .int .i64 r.2)
  obtain ⟨v0, v1⟩ := blk_2 RB3
  go_wp2_with fail
  exact bodyPost_ret (v := .agg #[.int .i64 r.1, .int .i64 r.2]) (by simp [results, Tryd.results21, go_sem, v0, v1]) rfl ⟨rfl, bw_set (bw_set (bw_trans (bw_trans (bw_trans BW J) B2) J2) (p := ⟨w.heap.size + 1, 0, none⟩) (by dsimp only; omega) _) (p := ⟨w.heap.size + 1, 1, none⟩) (by dsimp only; omega) _⟩
end Go.Proofs.YtlikfcfblkckaaaDoor
namespace Go.Proofs.YtlikfcfblkckaaaDoor
open Go.RowKit Go.Sort

/-- The edges that are told of a plate. -/
def plE (o : List P2) (hs : List (List P2)) : List (P2 × P2) := if plV o hs then segsL o ++ hs.flatMap segsL else []
theorem flat_len (hs : List (List P2)) (h : ∀ x ∈ hs, x.length ≤ 8) : (hs.flatMap segsL).length ≤ 8 * hs.length := by
  induction hs with
  | nil => simp
  | cons x xs ih =>
    have h1 := h x (by simp)
    have h2 := ih (fun y hy => h y (by simp [hy]))
    rw [List.flatMap_cons, List.length_append, segsL_len, List.length_cons]; omega
theorem plE_len (o : List P2) (hs : List (List P2)) : (plE o hs).length ≤ 24 := by
  unfold plE
  cases hv : plV o hs
  · simp
  · have L := (plV_iff o hs).1 hv
    have h0 := (okV_pos L.out).2
    have h1 := plV_len hv
    have h2 := flat_len hs (fun x hx => (okV_pos (L.ok x hx)).2)
    rw [if_pos rfl, List.length_append, segsL_len]; omega
theorem edgR_eq (x : RingT) (xs : List RingT) (hs : List (List P2)) (h : xs.map RingT.pts = hs) : edgR (x :: xs) = segsL x.pts ++ hs.flatMap segsL := by
  rw [← h]; simp [edgR, List.flatMap_map]
theorem ansS_mono {base base' top : Nat} {W : World} {v : Value} {ss : List (P2 × P2)} (h : AnsS base top W v ss) (hb : base' ≤ base) : AnsS base' top W v ss := by
  rcases h with h | ⟨g, c, e, h1, r⟩
  · exact .inl h
  · exact .inr ⟨g, c, e, by omega, r⟩
end Go.Proofs.YtlikfcfblkckaaaDoor
namespace Go.Proofs.YtlikfcfblkckaaaDoor
open Go.RowKit Go.Sort

theorem segsL_mem (l : List P2) (s : P2 × P2) : s ∈ segsL l ↔ ∃ i, i < l.length ∧ s = (ptAt l i, ptAt l (nxt l i)) := by
  unfold segsL; simp only [List.mem_map, List.mem_range]
  exact ⟨fun ⟨i, h, e⟩ => ⟨i, h, e.symm⟩, fun ⟨i, h, e⟩ => ⟨i, h, e.symm⟩⟩
theorem sAt_mem {ss : List (P2 × P2)} {j : Nat} (h : j < ss.length) : sAt ss j ∈ ss := by unfold sAt; rw [List.getElem?_eq_getElem h, Option.getD_some]; exact List.getElem_mem _
theorem plE_ok {o : List P2} {hs : List (List P2)} (hv : plV o hs = true) {s : P2 × P2} (h : s ∈ plE o hs) : sgP s.1 s.2 = true := by
  have L := (plV_iff o hs).1 hv
  unfold plE at h
  rw [hv, if_pos rfl, List.mem_append, List.mem_flatMap] at h
  rcases h with h | ⟨t, ht, h⟩
  · obtain ⟨i, hi, rfl⟩ := (segsL_mem _ _).1 h; exact okV_seg' L.out hi
  · obtain ⟨i, hi, rfl⟩ := (segsL_mem _ _).1 h; exact okV_seg' (L.ok t ht) hi
theorem plE_on {o : List P2} {hs : List (List P2)} (hv : plV o hs = true) (p : P2) : (∃ j, j < (plE o hs).length ∧ hasP (sAt (plE o hs) j).1 (sAt (plE o hs) j).2 p = true) ↔ (onL o p = true ∨ ∃ h ∈ hs, onL h p = true) := by
  have key : (∃ j, j < (plE o hs).length ∧ hasP (sAt (plE o hs) j).1 (sAt (plE o hs) j).2 p = true) ↔ ∃ s ∈ plE o hs, hasP s.1 s.2 p = true := by
    constructor
    · rintro ⟨j, hj, h⟩; exact ⟨_, sAt_mem hj, h⟩
    · rintro ⟨s, hs', h⟩
      obtain ⟨j, hj, rfl⟩ := List.getElem_of_mem hs'
      exact ⟨j, hj, by unfold sAt; rw [List.getElem?_eq_getElem hj, Option.getD_some]; exact h⟩
  rw [key]
  unfold plE
  rw [hv, if_pos rfl]
  constructor
  · rintro ⟨s, h, e⟩
    rw [List.mem_append, List.mem_flatMap] at h
    rcases h with h | ⟨t, ht, h⟩
    · obtain ⟨i, hi, rfl⟩ := (segsL_mem _ _).1 h; exact .inl ((onL_iff _ _).2 ⟨i, hi, e⟩)
    · obtain ⟨i, hi, rfl⟩ := (segsL_mem _ _).1 h; exact .inr ⟨t, ht, (onL_iff _ _).2 ⟨i, hi, e⟩⟩
  · rintro (h | ⟨t, ht, h⟩)
    · obtain ⟨i, hi, e⟩ := (onL_iff _ _).1 h; exact ⟨_, List.mem_append.2 (.inl ((segsL_mem _ _).2 ⟨i, hi, rfl⟩)), e⟩
    · obtain ⟨i, hi, e⟩ := (onL_iff _ _).1 h; exact ⟨_, List.mem_append.2 (.inr (List.mem_flatMap.2 ⟨t, ht, (segsL_mem _ _).2 ⟨i, hi, rfl⟩⟩)), e⟩
end Go.Proofs.YtlikfcfblkckaaaDoor
namespace Go.Proofs.YtlikfcfblkckaaaDoor
open Go.RowKit Go.Sort

theorem farS_of {p : P2} {s : P2 × P2} (hs : sgP s.1 s.2 = true) (hp : ptB p.1 p.2 = true) : farS p s = far s.1.1 s.1.2 s.2.1 s.2.2 p.1 p.2 := farV_ok hs hp
theorem farS_ok {p : P2} {s : P2 × P2} (hs : sgP s.1 s.2 = true) (hp : ptB p.1 p.2 = true) : OkF (farS p s) := by rw [farS_of hs hp]; exact far_ok hs hp
theorem plE_eq {o : List P2} {hs : List (List P2)} (hv : plV o hs = true) : plE o hs = segsL o ++ hs.flatMap segsL := by unfold plE; rw [hv, if_pos rfl]
theorem plE_ne {o : List P2} {hs : List (List P2)} (hv : plV o hs = true) : 3 ≤ (plE o hs).length := by
  have L := (plV_iff o hs).1 hv
  have := (okV_pos L.out).1
  rw [plE_eq hv, List.length_append, segsL_len]; omega
/-- How far a point is from the nearest edge. -/
def plFI (o : List P2) (hs : List (List P2)) (p : P2) : Int × Int := leastL ((plE o hs).map (farS p))
/-- The same, where all is ok; else nothing. -/
def plFV (o : List P2) (hs : List (List P2)) (p : P2) : Int × Int := if plV o hs && ptB p.1 p.2 then plFI o hs p else (0, 0)
theorem plFV_ok {o : List P2} {hs : List (List P2)} {p : P2} (hv : plV o hs = true) (hp : ptB p.1 p.2 = true) : plFV o hs p = plFI o hs p := by unfold plFV; rw [hv, hp]; rfl
theorem plFV_no {o : List P2} {hs : List (List P2)} {p : P2} (h : plV o hs = false ∨ ptB p.1 p.2 = false) : plFV o hs p = (0, 0) := by
  unfold plFV
  rcases h with h | h
  · rw [h]; rfl
  · rw [h, Bool.and_false]; rfl
theorem plE_far {o : List P2} {hs : List (List P2)} {p : P2} (hv : plV o hs = true) (hp : ptB p.1 p.2 = true) : ∀ f ∈ (plE o hs).map (farS p), OkF f := by
  intro f hf
  obtain ⟨s, h, rfl⟩ := List.mem_map.1 hf
  exact farS_ok (plE_ok hv h) hp
theorem plFI_least {o : List P2} {hs : List (List P2)} {p : P2} (hv : plV o hs = true) (hp : ptB p.1 p.2 = true) : LeastOf (plFI o hs p) ((plE o hs).map (farS p)) :=
  leastL_of (by intro e; have := plE_ne hv; have e2 := congrArg List.length e; rw [List.length_map, List.length_nil] at e2; omega) (plE_far hv hp)
theorem plFI_ok {o : List P2} {hs : List (List P2)} {p : P2} (hv : plV o hs = true) (hp : ptB p.1 p.2 = true) : OkF (plFI o hs p) := plE_far hv hp _ (plFI_least hv hp).mem
theorem plFI_mem {o : List P2} {hs : List (List P2)} {p : P2} (hv : plV o hs = true) (hp : ptB p.1 p.2 = true) : ∃ j, j < (plE o hs).length ∧ farS p (sAt (plE o hs) j) = plFI o hs p := by
  obtain ⟨s, h, e⟩ := List.mem_map.1 (plFI_least hv hp).mem
  obtain ⟨j, hj, rfl⟩ := List.getElem_of_mem h
  exact ⟨j, hj, by unfold sAt; rw [List.getElem?_eq_getElem hj, Option.getD_some]; exact e⟩
theorem plFI_le {o : List P2} {hs : List (List P2)} {p : P2} (hv : plV o hs = true) (hp : ptB p.1 p.2 = true) {j : Nat} (hj : j < (plE o hs).length) : LeF (plFI o hs p) (farS p (sAt (plE o hs) j)) :=
  (plFI_least hv hp).le _ (List.mem_map.2 ⟨_, sAt_mem hj, rfl⟩)
/-- It is 0 just on an edge. -/
theorem plFI_zero {o : List P2} {hs : List (List P2)} {p : P2} (hv : plV o hs = true) (hp : ptB p.1 p.2 = true) : plFI o hs p = (0, 1) ↔ plI o hs p = 0 := by
  rw [plI_zero hv, ← plE_on hv p]
  have z : ∀ j, j < (plE o hs).length → (farS p (sAt (plE o hs) j) = (0, 1) ↔ hasP (sAt (plE o hs) j).1 (sAt (plE o hs) j).2 p = true) := fun j hj => by
    have hs := plE_ok hv (sAt_mem hj)
    rw [farS_of hs hp, ← ok_zero (far_ok hs hp)]
    exact far_zero hs hp
  constructor
  · intro h
    obtain ⟨j, hj, e⟩ := plFI_mem hv hp
    exact ⟨j, hj, (z j hj).1 (by rw [e]; exact h)⟩
  · rintro ⟨j, hj, h⟩
    have hl := plFI_le hv hp hj
    rw [(z j hj).2 h] at hl
    have hp' := (plFI_ok hv hp).pos
    unfold LeF at hl
    exact (ok_zero (plFI_ok hv hp)).1 (by dsimp only at hl; omega)
theorem ptAt_mem {l : List P2} {i : Nat} (h : i < l.length) : ptAt l i ∈ l := by unfold ptAt; rw [List.getElem?_eq_getElem h, Option.getD_some]; exact List.getElem_mem _
theorem okV_plV {l : List P2} (h : okV l = true) : plV l [] = true := h
theorem segsL_ne {l : List P2} (h : okV l = true) (p : P2) : (segsL l).map (farS p) ≠ [] := by
  intro e
  have := congrArg List.length e
  rw [List.length_map, segsL_len, List.length_nil] at this
  have := (okV_pos h).1
  omega
/-- With a hole more it is the lesser of what it was, and how far that hole is. -/
theorem plFI_snoc {o h : List P2} {hs : List (List P2)} {p : P2} (hv : plV o (hs ++ [h]) = true) (hp : ptB p.1 p.2 = true) : plFI o (hs ++ [h]) p = mn (plFI o hs p) (plFI h [] p) := by
  have hv' : plV o hs = true := by have := plV_less hv; rwa [List.dropLast_concat] at this
  have L := (plV_iff _ _).1 hv
  have ok := L.ok h (by simp)
  have ho := plE_far hv' hp
  have hh := plE_far (okV_plV ok) hp
  have e : plE o (hs ++ [h]) = plE o hs ++ plE h [] := by rw [plE_eq hv, plE_eq hv', plE_eq (okV_plV ok)]; simp
  unfold plFI
  rw [e, List.map_append]
  refine leastL_append ?_ ?_ ho hh
  · intro e; have := plE_ne hv'; have e2 := congrArg List.length e; rw [List.length_map, List.length_nil] at e2; omega
  · intro e; have := plE_ne (okV_plV ok); have e2 := congrArg List.length e; rw [List.length_map, List.length_nil] at e2; omega
/-- What moves points, and leaves how far they are. -/
theorem segsL_map (f : P2 → P2) (l : List P2) : segsL (l.map f) = (segsL l).map fun s => (f s.1, f s.2) := by
  unfold segsL
  rw [List.length_map, List.map_map]
  refine List.map_congr_left fun i hi => ?_
  have h1 : i < l.length := List.mem_range.1 hi
  simp only [Function.comp, map_nxt]
  rw [map_at h1, map_at (nxt_lt (by omega))]
theorem plFI_map {f : P2 → P2} {o : List P2} {hs : List (List P2)} {p : P2} (hv : plV o hs = true) (hv' : plV (o.map f) (hs.map (List.map f)) = true) (hf : ∀ s ∈ plE o hs, farS (f p) (f s.1, f s.2) = farS p s) : plFI (o.map f) (hs.map (List.map f)) (f p) = plFI o hs p := by
  unfold plFI
  have e : plE (o.map f) (hs.map (List.map f)) = (plE o hs).map fun s => (f s.1, f s.2) := by
    rw [plE_eq hv, plE_eq hv', segsL_map, List.map_append, List.flatMap_map, List.map_flatMap]
    simp only [segsL_map]
  rw [e, List.map_map]
  exact congrArg leastL (List.map_congr_left fun s h => hf s h)
theorem plFI_mir {o : List P2} {hs : List (List P2)} {p : P2} (hv : plV o hs = true) (hp : ptB p.1 p.2 = true) : plFI (o.map mirP) (hs.map (List.map mirP)) (mirP p) = plFI o hs p :=
  plFI_map hv (plV_turn turns_mir hv) fun s h => by
    have hs := plE_ok hv h
    have hs' : sgP (mirP s.1) (mirP s.2) = true := mir_side.sg _ _ hs
    have hp' : ptB (mirP p).1 (mirP p).2 = true := by rw [ptB_iff] at hp ⊢; unfold mirP; dsimp only; omega
    rw [farS_of (s := (mirP s.1, mirP s.2)) hs' hp', farS_of hs hp]
    exact far_mir _ _ _ _ _ _
theorem plFI_swp {o : List P2} {hs : List (List P2)} {p : P2} (hv : plV o hs = true) (hp : ptB p.1 p.2 = true) : plFI (o.map swpP) (hs.map (List.map swpP)) (swpP p) = plFI o hs p :=
  plFI_map hv (plV_turn turns_swp hv) fun s h => by
    have hs := plE_ok hv h
    have hs' : sgP (swpP s.1) (swpP s.2) = true := swp_side.sg _ _ hs
    have hp' : ptB (swpP p).1 (swpP p).2 = true := by rw [ptB_iff] at hp ⊢; unfold swpP; dsimp only; omega
    rw [farS_of (s := (swpP s.1, swpP s.2)) hs' hp', farS_of hs hp]
    exact far_swap _ _ _ _ _ _
/-- In a plate on the other side what is in is in. -/
theorem plI_map {f : P2 → P2} (hf : ∀ l p, inI (l.map f) (f p) = inI l p) (o : List P2) (hs : List (List P2)) (p : P2) : plI (o.map f) (hs.map (List.map f)) (f p) = plI o hs p := by
  unfold plI
  rw [List.foldl_map, hf]
  simp only [hf]
end Go.Proofs.YtlikfcfblkckaaaDoor
namespace Go.Proofs.YtlikfcfblkckaaaDoor
open Go.RowKit Go.Sort

set_option maxRecDepth 100000 in
set_option maxHeartbeats 1000000 in
theorem plateFar_any (a ah : Option Addr) (la ca nh ch : Nat) (o : List P2) (hs : List (List P2)) (p : P2) (ad : Addr) (w : World) (h0 : Sent ad w) (h : Plt w a la ah nh o hs) :
    Calls Tryd.prog 6 #[.agg #[.slice a la ca, .slice ah nh ch], .agg #[.int .i64 p.1, .int .i64 p.2]] w fun e W' => e = .returned (.agg #[.int .i64 (plFV o hs p).1, .int .i64 (plFV o hs p).2]) ∧ Below w.heap.size w W' := by
  obtain ⟨W, hW, BW, TP, T, RB⟩ := boxes3 w (.cells #[.slice a la ca, .slice ah nh ch] 26) (.cells #[.int .i64 p.1, .int .i64 p.2] 28) (.cells #[.int .i64 0, .int .i64 0] 32)
  have hh := h.below BW
  obtain ⟨t0, t1⟩ := blk_2 TP
  have zP := blk_lt TP
  have zR := blk_lt RB
  have zB := BW.size
  cases hv : plV o hs
  · have e1 : Hid (plFV o hs p = (0, 0)) := plFV_no (.inl hv)
    go_enter Tryd.func6, Tryd.ntmps6
    go_upto_region 1 with fail
    rw [← hW]
    clear hW
    go_wp2_with fail
    refine (board_any a ah la ca nh ch o hs _ hh).mono ?_
    rw [hv]
    rintro e w1 ⟨q, rfl, J, _⟩
    replace RB := keep J RB
    obtain ⟨q0, q1, qf0, qf1⟩ := blkF RB
    have RB2 := setF2 RB (u0 := .int .i64 0) (u1 := .int .i64 0)
    obtain ⟨v0, v1⟩ := blk_2 RB2
    go_wp2_with fail
    exact bodyPost_ret (v := .agg #[.int .i64 0, .int .i64 0]) (by simp [results, Tryd.results6, go_sem, v0, v1]) rfl ⟨by rw [e1.out], bw_set (bw_set (bw_trans BW J) (p := ⟨w.heap.size + 2, 0, none⟩) (by dsimp only; omega) _) (p := ⟨w.heap.size + 2, 1, none⟩) (by dsimp only; omega) _⟩
  cases hp : ptB p.1 p.2
  · have e1 : Hid (plFV o hs p = (0, 0)) := plFV_no (.inr hp)
    go_enter Tryd.func6, Tryd.ntmps6
    go_upto_region 1 with fail
    rw [← hW]
    clear hW
    go_wp2_with fail
    refine (board_any a ah la ca nh ch o hs _ hh).mono ?_
    rw [hv]
    rintro e w1 ⟨q, rfl, J, _⟩
    replace T := keep J T
    clear t0 t1
    obtain ⟨t0, t1⟩ := blk_2 T
    go_wp2_with fail
    refine (pt_raw p _).mono ?_
    rw [hp]
    rintro e w2 ⟨rfl, J2⟩
    replace RB := keep (bw_trans J J2) RB
    obtain ⟨q0, q1, qf0, qf1⟩ := blkF RB
    have RB2 := setF2 RB (u0 := .int .i64 0) (u1 := .int .i64 0)
    obtain ⟨v0, v1⟩ := blk_2 RB2
    go_wp2_with fail
    exact bodyPost_ret (v := .agg #[.int .i64 0, .int .i64 0]) (by simp [results, Tryd.results6, go_sem, v0, v1]) rfl ⟨by rw [e1.out], bw_set (bw_set (bw_trans (bw_trans BW J) J2) (p := ⟨w.heap.size + 2, 0, none⟩) (by dsimp only; omega) _) (p := ⟨w.heap.size + 2, 1, none⟩) (by dsimp only; omega) _⟩
  · have e1 : Hid (plFV o hs p = plFI o hs p) := plFV_ok hv hp
    have L := (plV_iff o hs).1 hv
    have n3 := plE_ne hv
    have n24 := plE_len o hs
    have hfo : ∀ s ∈ plE o hs, OkF (farS p s) := fun s hs => farS_ok (plE_ok hv hs) hp
    go_enter Tryd.func6, Tryd.ntmps6
    go_upto_region 1 with fail
    rw [← hW]
    clear hW
    go_wp2_with fail
    refine (board_any a ah la ca nh ch o hs _ hh).mono ?_
    rintro e w1 ⟨q, rfl, J, hR⟩
    obtain ⟨b, xs, rfl, hR, hx⟩ := hR hv
    rw [hv]
    replace T := keep J T
    clear t0 t1
    obtain ⟨t0, t1⟩ := blk_2 T
    go_wp2_with fail
    refine (pt_raw p _).mono ?_
    rw [hp]
    rintro e w2 ⟨rfl, J2⟩
    replace T := keep J2 T
    clear t0 t1
    obtain ⟨t0, t1⟩ := blk_2 T
    have hE : edgR (⟨a, la, ca, o⟩ :: xs) = plE o hs := by rw [edgR_eq _ _ hs hx, plE_eq hv]
    have hcall := boardFar_any b (⟨a, la, ca, o⟩ :: xs) p ad w2 (h0.below (bw_trans (bw_trans BW J) J2)) (RingL.ringN (Nat.le_refl _) ((hR.below J2 (Nat.le_refl _)).grow J2.size)) (by rw [hE]; omega) (by rw [hE]; omega) (by rw [hE]; exact hfo)
    rw [hE, show leastL ((plE o hs).map (farS p)) = plFI o hs p from rfl, ← e1.out] at hcall
    clear hE hR hfo
    go_wp2_with fail
    refine hcall.mono ?_
    rintro e w3 ⟨rfl, J3⟩
    replace RB := keep (bw_trans (bw_trans J J2) J3) RB
    obtain ⟨q0, q1, qf0, qf1⟩ := blkF RB
    have RB2 := setF2 RB (u0 := .int .i64 (plFV o hs p).1) (u1 := .int .i64 (plFV o hs p).2)
    obtain ⟨v0, v1⟩ := blk_2 RB2
    go_wp2_with fail
    exact bodyPost_ret (v := .agg #[.int .i64 (plFV o hs p).1, .int .i64 (plFV o hs p).2]) (by simp [results, Tryd.results6, go_sem, v0, v1]) rfl ⟨rfl, bw_set (bw_set (bw_trans (bw_trans (bw_trans BW J) J2) J3) (p := ⟨w.heap.size + 2, 0, none⟩) (by dsimp only; omega) _) (p := ⟨w.heap.size + 2, 1, none⟩) (by dsimp only; omega) _⟩
end Go.Proofs.YtlikfcfblkckaaaDoor
namespace Go.Proofs.YtlikfcfblkckaaaDoor
open Go.RowKit Go.Shelf Go.Sort
attribute [local go_sem] Oper.semAt_some

/-- The cells of the edges that have come. -/
def segF (pts : List P2) (pre : List (Fin pts.length)) : List Value := pre.flatMap fun k => seg4 (ptAt pts k.1) (ptAt pts (nxt pts k.1))
theorem segF_snoc (pts : List P2) (pre : List (Fin pts.length)) (k : Fin pts.length) : segF pts (pre ++ [k]) = segF pts pre ++ seg4 (ptAt pts k.1) (ptAt pts (nxt pts k.1)) := by simp [segF]
theorem segR (pts : List P2) (n : Nat) : ((List.range n).flatMap fun k => seg4 (ptAt pts k) (ptAt pts (nxt pts k))) = segCells pts n := by
  induction n with
  | zero => rfl
  | succ n ih => rw [List.range_succ, List.flatMap_append, ih]; simp [segCells]
theorem segF_all (pts : List P2) : segF pts (List.finRange pts.length) = segCells pts pts.length := by
  rw [← segR]
  have : List.range pts.length = (List.finRange pts.length).map fun k => k.1 := by
    apply List.ext_getElem
    · simp
    · intro i h1 h2; simp
  rw [this, List.flatMap_map]; rfl
theorem own_base {W : World} {base base' : Nat} {e : TypeId} {size n : Nat} {v : Value} {xs : List Value} (h : W.ownsRow base e size v n xs) (hb : base' ≤ base) : W.ownsRow base' e size v n xs :=
  ⟨h.1, h.2.imp id fun ⟨g, c, cur, e1, h1, r⟩ => ⟨g, c, cur, e1, Nat.le_trans hb h1, r⟩⟩
/-- What LoopEdges answers. -/
def EdgesAns (base : Nat) (pts : List P2) (len : Nat) (e : Ending) (W' : World) : Prop :=
  (okV pts = false ∧ e = .returned (.slice none 0 0)) ∨ (okV pts = true ∧ ∃ vv, e = .returned vv ∧ W'.ownsRow base 98 4 vv len (segCells pts len))
/-- What the specification's answers. -/
def SEdgesAns (base : Nat) (pts : List P2) (len : Nat) (e : Ending) (W' : World) : Prop :=
  ∃ vv, e = .returned vv ∧ W'.ownsRow base 98 4 vv (if okV pts then len else 0) (segCells pts (if okV pts then len else 0))
end Go.Proofs.YtlikfcfblkckaaaDoor
namespace Go.Proofs.YtlikfcfblkckaaaDoor
open Go.RowKit Go.Sort

end Go.Proofs.YtlikfcfblkckaaaDoor
namespace Go.Proofs.YtlikfcfblkckaaaDoor
open Go.RowKit Go.Shelf Go.Sort
attribute [local go_sem] Oper.semAt_some

end Go.Proofs.YtlikfcfblkckaaaDoor
namespace Go.Proofs.YtlikfcfblkckaaaDoor
open Go.RowKit Go.Sort

/-- The edges that are told of a loop. -/
def edgV (l : List P2) : List (P2 × P2) := if okV l then segsL l else []
theorem edgV_len (l : List P2) : (edgV l).length ≤ 8 := by
  unfold edgV
  cases h : okV l
  · simp
  · have := ((okV_iff l).1 h).hi; rw [if_pos rfl, segsL_len]; omega
theorem PtBlk.own {W : World} {g c n : Nat} {l : List P2} (h : PtBlk W g c l n) : Own W g (c * 2) 28 := by obtain ⟨cur, h, hs, _⟩ := h; exact ⟨cur, h, hs⟩
end Go.Proofs.YtlikfcfblkckaaaDoor
namespace Go.Proofs.YtlikfcfblkckaaaDoor
open Go.RowKit Go.Shelf Go.Sort

end Go.Proofs.YtlikfcfblkckaaaDoor
namespace Go.Proofs.YtlikfcfblkckaaaDoor
open Go.RowKit Go.Sort

theorem sEdges_pts (a1 : Option Addr) (len1 cap1 : Nat) (l1 : List P2) (ok1 : okV l1 = true) (w : World) (hP1 : Pts w.heap.size w a1 len1 l1) :
    Calls Tryd.prog 49 #[.slice a1 len1 cap1] w fun e w' => ∃ g c, e = .returned (.slice (some ⟨g, 0, none⟩) len1 c) ∧ w'.ownsRow w.heap.size 98 4 (.slice (some ⟨g, 0, none⟩) len1 c) len1 (cellsS (segsL l1)) ∧ Below w.heap.size w w' := by
  have h1 := okV_pos ok1
  obtain ⟨e1, c1⟩ := hP1
  rcases c1 with h0 | ⟨b1, off1, rfl, hb1, hc1⟩
  · omega
  refine (sEdges_ok b1 off1 len1 cap1 l1 w e1 (by omega) (by omega) hb1 hc1).mono ?_
  rintro e w' ⟨v, rfl, ho, J⟩
  rw [← e1, ← segsL_cells, e1] at ho
  have ho' := ho
  rcases ho.2 with ⟨_, h0⟩ | ⟨g, c, cur, rfl, _⟩
  · omega
  · exact ⟨g, c, rfl, ho', J⟩
theorem cellsS_one (ss : List (P2 × P2)) : ∀ u ∈ cellsS ss, u.oneCell' = true := by
  intro u hu
  simp only [cellsS, List.mem_flatMap, seg4] at hu
  obtain ⟨s, _, hs⟩ := hu
  simp at hs
  rcases hs with rfl | rfl | rfl | rfl <;> rfl
set_option maxRecDepth 100000 in
set_option maxHeartbeats 4000000 in
theorem l11Edges_ok (a ah : Option Addr) (la ca nh ch : Nat) (o : List P2) (hs : List (List P2)) (hv : plV o hs = true) (w : World) (h : Plt w a la ah nh o hs) :
    Calls Tryd.prog 23 #[.agg #[.slice a la ca, .slice ah nh ch]] w fun e W' => ∃ v, e = .returned v ∧ W'.ownsRow w.heap.size 98 4 v (plE o hs).length (cellsS (plE o hs)) ∧ Below w.heap.size w W' := by
  obtain ⟨i0, hi0, hz0, hz1, hz2⟩ := info_parts Tryd.infoSeg
  obtain ⟨W, hW, BW, TP⟩ : ∃ W, W = w.alloc (.cells #[.slice a la ca, .slice ah nh ch] 26) ∧ Below w.heap.size w W ∧ W.heap[w.heap.size]? = some (.cells #[.slice a la ca, .slice ah nh ch] 26 (0, 0)) := ⟨_, rfl, (by repeat (first | exact bw_refl _ | assumption | apply bw_drewN | apply bw_drew | apply bw_alloc | refine bw_set ?_ (by simp) _)), heap_new _ _⟩
  have hPV := (plV_iff o hs).1 hv
  obtain ⟨hla, hP, hlen, A, L, C, hS, hH⟩ := h.below BW
  have HO := sEdges_pts a la ca o hPV.out W hP
  have HOK : Hid (∀ j, j < nh → okV (hs[j]?.getD []) = true) := fun j hj => hPV.ok _ (by rw [List.getElem?_eq_getElem (by omega), Option.getD_some]; exact List.getElem_mem _)
  have HE : Hid (plE o hs = segsL o ++ (hs.take nh).flatMap segsL) := by change _ = _; unfold plE; rw [hv, if_pos rfl, ← hlen, List.take_length]
  have HT : Hid (∀ k, k < nh → (hs.take (k + 1)).flatMap segsL = (hs.take k).flatMap segsL ++ segsL (hs[k]?.getD [])) := fun k hk => by
    rw [List.take_add_one, List.flatMap_append, List.getElem?_eq_getElem (by omega)]; simp
  have HB : Hid (∀ k, k ≤ nh → (segsL o ++ (hs.take k).flatMap segsL).length ≤ 24) := fun k hk => by
    have h0 := (okV_pos hPV.out).2
    have h2 := flat_len (hs.take k) (fun x hx => (okV_pos (hPV.ok x (List.mem_of_mem_take hx))).2)
    have h3 := hPV.len
    rw [List.length_append, segsL_len]; rw [List.length_take] at h2; omega
  have hl0 : Hid (la = (segsL o).length) := by change _ = _; rw [segsL_len]; exact hP.1.symm
  have hnh : nh ≤ 2 := by have := hPV.len; omega
  clear hlen hPV hv h
  obtain ⟨t0, t1⟩ := blk_2 TP
  have zP := blk_lt TP
  go_enter Tryd.func23, Tryd.ntmps23
  go_upto_region 1 with fail
  rw [← hW]
  clear hW
  go_wp2_with fail
  refine HO.mono ?_
  rintro e v ⟨g0, c0, rfl, ho0, J⟩
  have ho1 : v.ownsRow W.heap.size 98 4 (.slice (some ⟨g0, 0, none⟩) la c0) (segsL o ++ (hs.take 0).flatMap segsL).length (cellsS (segsL o ++ (hs.take 0).flatMap segsL)) := by
    have e0 := hl0.out; simp only [List.take_zero, List.flatMap_nil, List.append_nil]; rw [← e0]; exact ho0
  clear HO t0 t1 ho0
  go_wp2_with fail
  go_loopw [3, 4] (fun out i wr => ∃ k : Nat, k ≤ nh ∧ i = .int .i64 k ∧ wr.ownsRow W.heap.size 98 4 out (segsL o ++ (hs.take k).flatMap segsL).length (cellsS (segsL o ++ (hs.take k).flatMap segsL)) ∧ Below W.heap.size W wr) (fun _ i _ => nh - (intOf i).toNat)
  case atStart => exact ⟨0, Nat.zero_le _, rfl, ho1, J⟩
  case round =>
    obtain ⟨k, hk, rfl, hown, hnx⟩ := hrel
    obtain ⟨t0, t1⟩ := blk_2 (keep hnx TP)
    have zz := hnx.size
    by_cases hlt : k < nh
    case neg =>
      obtain rfl : nh = k := by omega
      rw [← HE.out] at hown
      go_wp2_with fail
      go_ret
      exact ⟨_, rfl, own_base hown BW.size, bw_trans BW hnx⟩
    case pos =>
      rcases hS.below hnx with h0 | ⟨b, off, rfl, hbl, hcs⟩
      · omega
      have c1 := hcs k hlt
      clear hcs
      have j0 : (0 : Int) ≤ (k : Int) := Int.natCast_nonneg _
      have j1 : (k : Int) < (nh : Int) := by omega
      obtain ⟨hLk, hPk⟩ := hH k hlt
      have hokk := HOK.out k hlt
      have hcall := sEdges_pts (A k) (L k) (C k) _ hokk wr ((hPk.below hnx).grow hnx.size)
      have hlk : (segsL (hs[k]?.getD [])).length = L k := by rw [segsL_len]; exact hPk.1
      have hbk := HB.out k hk
      have hbk1 := HB.out (k + 1) hlt
      rw [HT.out k hlt, ← List.append_assoc, List.length_append, hlk] at hbk1
      have hl1 : (segsL o ++ (hs.take k).flatMap segsL).length + L k = (segsL o ++ (hs.take (k + 1)).flatMap segsL).length := by rw [HT.out k hlt, ← List.append_assoc, List.length_append (bs := segsL _), hlk]
      have hc1 : cellsS (segsL o ++ (hs.take (k + 1)).flatMap segsL) = cellsS (segsL o ++ (hs.take k).flatMap segsL) ++ cellsS (segsL (hs[k]?.getD [])) := by rw [HT.out k hlt, ← List.append_assoc, cellsS_append _ (segsL _)]
      have HL1 : Hid ((segsL o ++ (hs.take k).flatMap segsL).length + L k = (segsL o ++ (hs.take (k + 1)).flatMap segsL).length) := hl1
      have HC1 : Hid (cellsS (segsL o ++ (hs.take (k + 1)).flatMap segsL) = cellsS (segsL o ++ (hs.take k).flatMap segsL) ++ cellsS (segsL (hs[k]?.getD []))) := hc1
      have HLK : Hid ((cellsS (segsL (hs[k]?.getD []))).length = L k * 4) := by change _ = _; rw [cellsS_len, hlk]
      have hm1 : (segsL o ++ (hs.take k).flatMap segsL).length + L k ≤ 24 := by rw [hl1]; exact HB.out (k + 1) hlt
      clear hl1 hc1 hbk1 hlk
      go_wp2_with (first
        | (go_at_call 49; refine hcall.mono ?_; rintro e w7 ⟨g7, c7, rfl, ho7, J7⟩; have hown7 := hown.kept (w' := w7) (row := none) ⟨J7.os, J7.tape, J7.output, J7.size, fun j hj _ => J7.block j hj⟩ (Classical.em _); have hn7 := bw_trans hnx J7; have zz7 := hn7.size)
        | (at_builtin; refine wpList_append_own_wide _ rfl _ _ _ rfl W.heap.size 98 i0 _ 4 32 Tryd.underlying58 hi0 hz0 hz1 hz2 rfl (by omega) _ _ _ rfl hown7 ⟨g7, 0, none⟩ (L k) c7 (cellsS (segsL (hs[k]?.getD []))) rfl HLK.out (ho7.cells (g := g7) rfl) (cellsS_one _) (by simp [maxLen] at hm1 ⊢; omega) (by omega) (by omega) ?_; intro v8 w8 hown8 hgr8 hnil8))
      go_roundw
      case rel => exact ⟨k + 1, by omega, by simp, by rw [← HL1.out, HC1.out]; exact hown8, hn7.grown hgr8 zz7 (fun j e => (hown7.lt j e).1)⟩
      case measure => simp [intOf]; omega
end Go.Proofs.YtlikfcfblkckaaaDoor
namespace Go.Proofs.YtlikfcfblkckaaaDoor
open Go.RowKit Go.Sort

theorem cT6 {W : World} {p m n k l : Nat} {x y z u : Value} {a0 a1 a2 a3 a4 a5 : Addr} {v0 v1 v2 v3 v4 v5 : Value} (h : W.cell? a0 = some v0 ∧ W.cell? a1 = some v1 ∧ W.cell? a2 = some v2 ∧ W.cell? a3 = some v3 ∧ W.cell? a4 = some v4 ∧ W.cell? a5 = some v5) (n0 : a0.block ≠ p) (n1 : a1.block ≠ p) (n2 : a2.block ≠ p) (n3 : a3.block ≠ p) (n4 : a4.block ≠ p) (n5 : a5.block ≠ p) : ((((W.setCell ⟨p, m, none⟩ x).setCell ⟨p, n, none⟩ y).setCell ⟨p, k, none⟩ z).setCell ⟨p, l, none⟩ u).cell? a0 = some v0 ∧ ((((W.setCell ⟨p, m, none⟩ x).setCell ⟨p, n, none⟩ y).setCell ⟨p, k, none⟩ z).setCell ⟨p, l, none⟩ u).cell? a1 = some v1 ∧ ((((W.setCell ⟨p, m, none⟩ x).setCell ⟨p, n, none⟩ y).setCell ⟨p, k, none⟩ z).setCell ⟨p, l, none⟩ u).cell? a2 = some v2 ∧ ((((W.setCell ⟨p, m, none⟩ x).setCell ⟨p, n, none⟩ y).setCell ⟨p, k, none⟩ z).setCell ⟨p, l, none⟩ u).cell? a3 = some v3 ∧ ((((W.setCell ⟨p, m, none⟩ x).setCell ⟨p, n, none⟩ y).setCell ⟨p, k, none⟩ z).setCell ⟨p, l, none⟩ u).cell? a4 = some v4 ∧ ((((W.setCell ⟨p, m, none⟩ x).setCell ⟨p, n, none⟩ y).setCell ⟨p, k, none⟩ z).setCell ⟨p, l, none⟩ u).cell? a5 = some v5 := cS6 (cS6 h n0 n1 n2 n3 n4 n5) n0 n1 n2 n3 n4 n5
theorem cellL {W : World} {o o' : Obj} {a : Addr} {v : Value} (h : (W.alloc o).cell? a = some v) (hb : a.block < W.heap.size) : (W.alloc o').cell? a = some v := by
  rw [← h]
  exact World.cell?_of_block (w := W.alloc o) ((heap_old W o' hb).trans (heap_old W o hb).symm)
theorem cL6 {W : World} {o o' : Obj} {a0 a1 a2 a3 a4 a5 : Addr} {v0 v1 v2 v3 v4 v5 : Value} (h : (W.alloc o).cell? a0 = some v0 ∧ (W.alloc o).cell? a1 = some v1 ∧ (W.alloc o).cell? a2 = some v2 ∧ (W.alloc o).cell? a3 = some v3 ∧ (W.alloc o).cell? a4 = some v4 ∧ (W.alloc o).cell? a5 = some v5) (n0 : a0.block < W.heap.size) (n1 : a1.block < W.heap.size) (n2 : a2.block < W.heap.size) (n3 : a3.block < W.heap.size) (n4 : a4.block < W.heap.size) (n5 : a5.block < W.heap.size) : (W.alloc o').cell? a0 = some v0 ∧ (W.alloc o').cell? a1 = some v1 ∧ (W.alloc o').cell? a2 = some v2 ∧ (W.alloc o').cell? a3 = some v3 ∧ (W.alloc o').cell? a4 = some v4 ∧ (W.alloc o').cell? a5 = some v5 :=
  ⟨cellL h.1 n0, cellL h.2.1 n1, cellL h.2.2.1 n2, cellL h.2.2.2.1 n3, cellL h.2.2.2.2.1 n4, cellL h.2.2.2.2.2 n5⟩
theorem cL8 {W : World} {o o' : Obj} {a0 a1 a2 a3 a4 a5 a6 a7 : Addr} {v0 v1 v2 v3 v4 v5 v6 v7 : Value} (h : (W.alloc o).cell? a0 = some v0 ∧ (W.alloc o).cell? a1 = some v1 ∧ (W.alloc o).cell? a2 = some v2 ∧ (W.alloc o).cell? a3 = some v3 ∧ (W.alloc o).cell? a4 = some v4 ∧ (W.alloc o).cell? a5 = some v5 ∧ (W.alloc o).cell? a6 = some v6 ∧ (W.alloc o).cell? a7 = some v7) (n0 : a0.block < W.heap.size) (n1 : a1.block < W.heap.size) (n2 : a2.block < W.heap.size) (n3 : a3.block < W.heap.size) (n4 : a4.block < W.heap.size) (n5 : a5.block < W.heap.size) (n6 : a6.block < W.heap.size) (n7 : a7.block < W.heap.size) : (W.alloc o').cell? a0 = some v0 ∧ (W.alloc o').cell? a1 = some v1 ∧ (W.alloc o').cell? a2 = some v2 ∧ (W.alloc o').cell? a3 = some v3 ∧ (W.alloc o').cell? a4 = some v4 ∧ (W.alloc o').cell? a5 = some v5 ∧ (W.alloc o').cell? a6 = some v6 ∧ (W.alloc o').cell? a7 = some v7 :=
  ⟨cellL h.1 n0, cellL h.2.1 n1, cellL h.2.2.1 n2, cellL h.2.2.2.1 n3, cellL h.2.2.2.2.1 n4, cellL h.2.2.2.2.2.1 n5, cellL h.2.2.2.2.2.2.1 n6, cellL h.2.2.2.2.2.2.2 n7⟩
end Go.Proofs.YtlikfcfblkckaaaDoor
namespace Go.Proofs.YtlikfcfblkckaaaDoor
open Go.RowKit Go.Sort

set_option maxRecDepth 100000 in
set_option maxHeartbeats 4000000 in
theorem sL11Far_ok (g len cap : Nat) (ss : List (P2 × P2)) (p : P2) (w : World) (hS : SRow w g ss) (zg : g < w.heap.size) (hl : ss.length = len) (h1 : 1 ≤ len) (h2 : len ≤ 1000) (hok : ∀ s ∈ ss, sgP s.1 s.2 = true) (hp : ptB p.1 p.2 = true) :
    Calls Tryd.prog 22 #[.slice (some ⟨g, 0, none⟩) len cap, .agg #[.int .i64 p.1, .int .i64 p.2]] w fun e W' => e = .returned (.agg #[.int .i64 (leastL (ss.map (farS p))).1, .int .i64 (leastL (ss.map (farS p))).2]) ∧ Below w.heap.size w W' := by
  obtain ⟨W, hW, BW, T, RB⟩ := boxes2 w (.cells #[.int .i64 p.1, .int .i64 p.2] 28) (.cells #[.int .i64 0, .int .i64 0] 32)
  obtain ⟨F, hF⟩ : ∃ F : Nat → Int × Int, F = fun k => farS p (sAt ss k) := ⟨_, rfl⟩
  obtain ⟨M, hM⟩ : ∃ M : Nat → Int × Int, M = fun k => leastL ((ss.take k).map (farS p)) := ⟨_, rfl⟩
  have hat : ∀ k, k < len → sgP (sAt ss k).1 (sAt ss k).2 = true := fun k hk => hok _ (sAt_mem (by omega))
  have HF : Hid (∀ k, k < len → OkF (F k) ∧ ∀ w, Calls Tryd.prog 47 #[.agg #[.int .i64 (sAt ss k).1.1, .int .i64 (sAt ss k).1.2, .int .i64 (sAt ss k).2.1, .int .i64 (sAt ss k).2.2], .agg #[.int .i64 p.1, .int .i64 p.2]] w fun e w' => e = .returned (.agg #[.int .i64 (F k).1, .int .i64 (F k).2]) ∧ Below w.heap.size w w') := fun k hk => by
    rw [hF]
    refine ⟨farS_ok (hat k hk) hp, fun w => ?_⟩
    have := sFar_ok (sAt ss k).1.1 (sAt ss k).1.2 (sAt ss k).2.1 (sAt ss k).2.2 p.1 p.2 w (hat k hk) hp
    dsimp only
    rw [farS_of (hat k hk) hp]
    exact this
  have hcut : ∀ k, k < len → (ss.take (k + 1)).map (farS p) = (ss.take k).map (farS p) ++ [farS p (sAt ss k)] := fun k hk => by
    rw [List.take_add_one, List.getElem?_eq_getElem (by omega), List.map_append]
    simp [sAt, List.getElem?_eq_getElem (show k < ss.length by omega)]
  have hfold : ∀ (l : List (Int × Int)) (x : Int × Int), l ≠ [] → leastL (l ++ [x]) = mn (leastL l) x := by
    intro l x hne
    cases l with
    | nil => exact absurd rfl hne
    | cons y l => show (l ++ [x]).foldl mn y = _; rw [List.foldl_append]; rfl
  have HM1 : Hid (M (0 + 1) = F 0) := by change _ = _; rw [hM, hF]; dsimp only; rw [hcut 0 (by omega)]; rfl
  have HMs : Hid (∀ k, 1 ≤ k → k < len → M (k + 1) = mn (M k) (F k)) := fun k hk1 hk => by
    rw [hM, hF]; dsimp only; rw [hcut k hk]
    refine hfold _ _ ?_
    intro e
    have := congrArg List.length e
    rw [List.length_map, List.length_take, List.length_nil] at this
    omega
  have HMok : Hid (∀ k, 1 ≤ k → k ≤ len → OkF (M k)) := fun k hk1 hk => by
    rw [hM]; dsimp only
    refine leastL_ok ?_ ?_
    · intro e
      have := congrArg List.length e
      rw [List.length_map, List.length_take, List.length_nil] at this
      omega
    · intro f hf
      obtain ⟨s, hs, rfl⟩ := List.mem_map.1 hf
      exact farS_ok (hok s (List.mem_of_mem_take hs)) hp
  have HMl : Hid (M len = leastL (ss.map (farS p))) := by change _ = _; rw [hM]; dsimp only; rw [← hl, List.take_length]
  have HS : Hid (∀ k, k < len → w.cell? ⟨g, k * 4, none⟩ = some (.int .i64 (sAt ss k).1.1) ∧ w.cell? ⟨g, k * 4 + 1, none⟩ = some (.int .i64 (sAt ss k).1.2) ∧ w.cell? ⟨g, k * 4 + 2, none⟩ = some (.int .i64 (sAt ss k).2.1) ∧ w.cell? ⟨g, k * 4 + 3, none⟩ = some (.int .i64 (sAt ss k).2.2)) := fun k hk => hS k (by omega)
  clear hF hM hat hcut hfold hok hl hS
  rw [← HMl.out]
  obtain ⟨s0, s1, s2, s3⟩ := HS.out 0 (by omega)
  simp only [Nat.zero_mul, Nat.zero_add] at s0 s1 s2 s3
  have d0 := (BW.cell (p := ⟨g, 0, none⟩) zg).trans s0
  have d1 := (BW.cell (p := ⟨g, 1, none⟩) zg).trans s1
  have d2 := (BW.cell (p := ⟨g, 2, none⟩) zg).trans s2
  have d3 := (BW.cell (p := ⟨g, 3, none⟩) zg).trans s3
  clear s0 s1 s2 s3
  obtain ⟨t0, t1⟩ := blk_2 T
  have i0 : (0 : Int) < (len : Int) := by omega
  have i4 : 0 < len := by omega
  have zW := BW.size
  have zR := blk_lt RB
  go_enter Tryd.func22, Tryd.ntmps22
  go_upto_region 1 with fail
  rw [← hW]
  clear hW
  have hgW : g < W.heap.size := by omega
  have hwW : w.heap.size < W.heap.size := by have := blk_lt T; omega
  have hS0 : ((fun w' => w'.cell? ⟨g, 0, none⟩ = some (.int .i64 (sAt ss 0).1.1) ∧ w'.cell? ⟨g, 1, none⟩ = some (.int .i64 (sAt ss 0).1.2) ∧ w'.cell? ⟨g, 2, none⟩ = some (.int .i64 (sAt ss 0).2.1) ∧ w'.cell? ⟨g, 3, none⟩ = some (.int .i64 (sAt ss 0).2.2) ∧ w'.cell? ⟨w.heap.size, 0, none⟩ = some (.int .i64 p.1) ∧ w'.cell? ⟨w.heap.size, 1, none⟩ = some (.int .i64 p.2))) W := ⟨d0, d1, d2, d3, t0, t1⟩
  clear d0 d1 d2 d3 t0 t1
  go_cut [5] (fun s5 wc => ∃ b, s5 = .pointer (some ⟨b, 0, none⟩) ∧ W.heap.size ≤ b ∧ wc.heap[b]? = some (.cells #[.int .i64 (F 0).1, .int .i64 (F 0).2] 32 (0, 0)) ∧ Below W.heap.size W wc)
  case first =>
    have H := bw_drew (bw_refl W)
    have hcall := (HF.out 0 (by omega)).2
    go_region_held3 (fun w' => w'.cell? ⟨g, 0, none⟩ = some (.int .i64 (sAt ss 0).1.1) ∧ w'.cell? ⟨g, 1, none⟩ = some (.int .i64 (sAt ss 0).1.2) ∧ w'.cell? ⟨g, 2, none⟩ = some (.int .i64 (sAt ss 0).2.1) ∧ w'.cell? ⟨g, 3, none⟩ = some (.int .i64 (sAt ss 0).2.2) ∧ w'.cell? ⟨w.heap.size, 0, none⟩ = some (.int .i64 p.1) ∧ w'.cell? ⟨w.heap.size, 1, none⟩ = some (.int .i64 p.2)) (first | with_reducible exact cB6 K (by assumption) | with_reducible exact cA6 (by assumption) | exact hS0 | exact cA6 hS0 | with_reducible exact cL6 (by assumption) (by have := H.size; dsimp only; omega) (by have := H.size; dsimp only; omega) (by have := H.size; dsimp only; omega) (by have := H.size; dsimp only; omega) (by have := H.size; dsimp only; omega) (by have := H.size; dsimp only; omega) | exact cS6 (by assumption) (by dsimp only; omega) (by dsimp only; omega) (by dsimp only; omega) (by dsimp only; omega) (by dsimp only; omega) (by dsimp only; omega)) ((go_at_call 47; refine (hcall _).mono ?_; rintro e zz ⟨rfl, K⟩; (first | (replace H := bw_trans H K) | (have AB := keep K (heap_new _ _); replace H := bw_trans (bw_alloc H _) K; obtain ⟨q0, q1, qf0, qf1⟩ := blkF AB))))
    all_goals go_wp2_with fail
    all_goals go_meet
    all_goals (first | exact ⟨_, rfl, H.size, heap_new _ _, bw_alloc H _⟩ | exact ⟨_, rfl, Nat.le_refl _, setF2 AB, bw_set (bw_set H (by dsimp only; omega) _) (by dsimp only; omega) _⟩)
  case rest =>
    obtain ⟨b, rfl, hbW, hO, HC⟩ := hcut
    have hO1 : wc.heap[b]? = some (.cells #[.int .i64 (M (0 + 1)).1, .int .i64 (M (0 + 1)).2] 32 (0, 0)) := by rw [HM1.out]; exact hO
    rw [Nat.zero_add] at hO1
    have hmx : Tryd.prog.follows .mixedOrders = true := by kernel_rfl
    clear hO HM1 hS0 i0 i4
    go_wp2_with fail
    go_loopw [6] (fun i wr => ∃ k : Nat, 1 ≤ k ∧ k ≤ len ∧ i = .int .i64 k ∧ wr.heap[b]? = some (.cells #[.int .i64 (M k).1, .int .i64 (M k).2] 32 (0, 0)) ∧ Below W.heap.size W wr) (fun i _ => len - (intOf i).toNat)
    case atStart => exact ⟨1, Nat.le_refl _, h1, rfl, hO1, HC⟩
    case round =>
      obtain ⟨k, hk1, hk, rfl, LB, H⟩ := hrel
      by_cases hlt : k < len
      case neg =>
        obtain rfl : len = k := by omega
        have RB1 := keep H RB
        obtain ⟨l0, l1⟩ := blk_2 LB
        obtain ⟨q0, q1, qf0, qf1⟩ := blkF RB1
        have RB2 := setF2 RB1 (u0 := .int .i64 (M len).1) (u1 := .int .i64 (M len).2)
        obtain ⟨v0, v1⟩ := blk_2 RB2
        go_wp2_with fail
        exact bodyPost_ret (v := .agg #[.int .i64 (M len).1, .int .i64 (M len).2]) (by simp [results, Tryd.results22, go_sem, v0, v1]) rfl ⟨rfl, bw_set (bw_set (bw_trans BW H) (p := ⟨w.heap.size + 1, 0, none⟩) (by dsimp only; omega) _) (p := ⟨w.heap.size + 1, 1, none⟩) (by dsimp only; omega) _⟩
      case pos =>
        have hst := HMs.out k hk1 hlt
        have hMk := HMok.out k hk1 hk
        obtain ⟨hFk, hcall⟩ := HF.out k hlt
        obtain ⟨s0, s1, s2, s3⟩ := HS.out k hlt
        have KW := bw_trans BW H
        have d0 := (KW.cell (p := ⟨g, k * 4, none⟩) zg).trans s0
        have d1 := (KW.cell (p := ⟨g, k * 4 + 1, none⟩) zg).trans s1
        have d2 := (KW.cell (p := ⟨g, k * 4 + 2, none⟩) zg).trans s2
        have d3 := (KW.cell (p := ⟨g, k * 4 + 3, none⟩) zg).trans s3
        obtain ⟨t0, t1⟩ := blk_2 (keep H T)
        have i0 : (0 : Int) ≤ (k : Int) := Int.natCast_nonneg _
        have i1 : (k : Int) < (len : Int) := by omega
        have i2 : (k : Int) ≤ 1000 := by omega
        have HST : Hid (M (k + 1) = mn (M k) (F k)) := hst
        have hL := fun v => sLeast_ok (M k) (F k) v hMk hFk
        have zb := blk_lt LB
        have zs := H.size
        clear hst s0 s1 s2 s3 hMk hFk
        have hS1 : (fun w' : World => (w'.cell? ⟨g, k * 4, none⟩ = some (.int .i64 (sAt ss k).1.1) ∧ w'.cell? ⟨g, k * 4 + 1, none⟩ = some (.int .i64 (sAt ss k).1.2) ∧ w'.cell? ⟨g, k * 4 + 2, none⟩ = some (.int .i64 (sAt ss k).2.1) ∧ w'.cell? ⟨g, k * 4 + 3, none⟩ = some (.int .i64 (sAt ss k).2.2)) ∧ w'.cell? ⟨w.heap.size, 0, none⟩ = some (.int .i64 p.1) ∧ w'.cell? ⟨w.heap.size, 1, none⟩ = some (.int .i64 p.2)) wr.drew := ⟨⟨d0, d1, d2, d3⟩, t0, t1⟩
        generalize M k = m at *
        generalize F k = f at *
        go_wp2_with fail
        refine wp_region_held (S := (fun w' : World => (w'.cell? ⟨g, k * 4, none⟩ = some (.int .i64 (sAt ss k).1.1) ∧ w'.cell? ⟨g, k * 4 + 1, none⟩ = some (.int .i64 (sAt ss k).1.2) ∧ w'.cell? ⟨g, k * 4 + 2, none⟩ = some (.int .i64 (sAt ss k).2.1) ∧ w'.cell? ⟨g, k * 4 + 3, none⟩ = some (.int .i64 (sAt ss k).2.2)) ∧ w'.cell? ⟨w.heap.size, 0, none⟩ = some (.int .i64 p.1) ∧ w'.cell? ⟨w.heap.size, 1, none⟩ = some (.int .i64 p.2))) hmx ?_
        refine wpAnyH_take (i := 1) (v := .slice (some ⟨g, 0, none⟩) len cap) rfl (by kernel_rfl) (by kernel_rfl) (by kernel_rfl) (fun _ _ _ h => h) (Or.inl ⟨by rfl, by rintro w' ⟨⟨s1, s2, s3, s4⟩, s5, s6⟩; go_simp⟩) hS1 ?_
        refine wpAnyH_take (i := 2) (v := .int .i64 (k : Int)) rfl (by kernel_rfl) (by kernel_rfl) (by kernel_rfl) (fun _ _ _ h => h) (Or.inl ⟨by rfl, by rintro w' ⟨⟨s1, s2, s3, s4⟩, s5, s6⟩; go_simp⟩) hS1 ?_
        refine wpAnyH_take (i := 3) (v := .pointer (some ⟨g, k * 4, none⟩)) rfl (by kernel_rfl) (by kernel_rfl) (by kernel_rfl) (fun _ _ _ h => h) (Or.inl ⟨by rfl, by rintro w' ⟨⟨s1, s2, s3, s4⟩, s5, s6⟩; go_simp⟩) hS1 ?_
        refine wpAnyH_take (i := 4) (v := .agg #[.int .i64 (sAt ss k).1.1, .int .i64 (sAt ss k).1.2, .int .i64 (sAt ss k).2.1, .int .i64 (sAt ss k).2.2]) rfl (by kernel_rfl) (by kernel_rfl) (by kernel_rfl) (fun _ _ _ h => h) (Or.inl ⟨by rfl, by rintro w' ⟨⟨s1, s2, s3, s4⟩, s5, s6⟩; go_simp⟩) hS1 ?_
        refine wpAnyH_take (i := 5) (v := .agg #[.int .i64 p.1, .int .i64 p.2]) rfl (by kernel_rfl) (by kernel_rfl) (by kernel_rfl) (fun _ _ _ h => h) (Or.inl ⟨by rfl, by rintro w' ⟨⟨s1, s2, s3, s4⟩, s5, s6⟩; go_simp⟩) hS1 ?_
        obtain ⟨l0, l1⟩ := blk_2 (show wr.drew.heap[b]? = _ from LB)
        refine wpAnyH_all (rs := [0, 6]) (by kernel_rfl) (by simp) ?_
        intro i hi
        have hi' : i = 0 ∨ i = 6 := by simpa using hi
        clear hi
        rcases hi' with rfl | rfl
        · skip
          refine YieldsIf.wpOp (S := fun w' => w' = wr.drew) (v := .agg #[.int .i64 m.1, .int .i64 m.2]) rfl (Or.inl ⟨by rfl, by rintro w' rfl; go_simp⟩) rfl ⟨hS1, ?_⟩
          refine wpAnyH_all (rs := [6]) (by kernel_rfl) (by simp) ?_
          intro i hi
          obtain rfl : i = 6 := by simpa using hi
          refine wpOp_now rfl (by rfl) ?_
          go_simp
          refine (hcall _).mono ?_
          rintro e y1 ⟨rfl, J1⟩
          have hS2 : (fun w' : World => (w'.cell? ⟨g, k * 4, none⟩ = some (.int .i64 (sAt ss k).1.1) ∧ w'.cell? ⟨g, k * 4 + 1, none⟩ = some (.int .i64 (sAt ss k).1.2) ∧ w'.cell? ⟨g, k * 4 + 2, none⟩ = some (.int .i64 (sAt ss k).2.1) ∧ w'.cell? ⟨g, k * 4 + 3, none⟩ = some (.int .i64 (sAt ss k).2.2)) ∧ w'.cell? ⟨w.heap.size, 0, none⟩ = some (.int .i64 p.1) ∧ w'.cell? ⟨w.heap.size, 1, none⟩ = some (.int .i64 p.2)) y1 := ⟨cB4 J1 hS1.1, cellB J1 hS1.2.1, cellB J1 hS1.2.2⟩
          refine ⟨hS2, ?_⟩
          refine wpAnyH_all (rs := [7]) (by kernel_rfl) (by simp) ?_
          intro i hi
          obtain rfl : i = 7 := by simpa using hi
          refine wpOp_now rfl (by rfl) ?_
          go_simp
          refine (hL _).mono ?_
          rintro e y2 ⟨rfl, J2⟩
          have hS3 : (fun w' : World => (w'.cell? ⟨g, k * 4, none⟩ = some (.int .i64 (sAt ss k).1.1) ∧ w'.cell? ⟨g, k * 4 + 1, none⟩ = some (.int .i64 (sAt ss k).1.2) ∧ w'.cell? ⟨g, k * 4 + 2, none⟩ = some (.int .i64 (sAt ss k).2.1) ∧ w'.cell? ⟨g, k * 4 + 3, none⟩ = some (.int .i64 (sAt ss k).2.2)) ∧ w'.cell? ⟨w.heap.size, 0, none⟩ = some (.int .i64 p.1) ∧ w'.cell? ⟨w.heap.size, 1, none⟩ = some (.int .i64 p.2)) y2 := ⟨cB4 J2 hS2.1, cellB J2 hS2.2.1, cellB J2 hS2.2.2⟩
          refine ⟨hS3, ?_⟩
          have H2 : Below W.heap.size W y2 := bw_trans (bw_trans H.drew J1) J2
          have LB2 := keep J2 (keep J1 (show wr.drew.heap[b]? = _ from LB))
          obtain ⟨q0, q1, qf0, qf1⟩ := blkF LB2
          refine wpAnyH_all (rs := [8]) (by kernel_rfl) (by simp) ?_
          intro i hi
          obtain rfl : i = 8 := by simpa using hi
          refine wpOp_now rfl (by rfl) ?_
          go_simp
          refine wpAnyH_done (by kernel_rfl) ?_ _
          try simp only [Exit.inBlock, Exit.then]
          have LB3 := setF2 LB2 (u0 := .int .i64 (mn m f).1) (u1 := .int .i64 (mn m f).2)
          have H3 := bw_set (bw_set H2 (p := ⟨b, 0, none⟩) hbW (.int .i64 (mn m f).1)) (p := ⟨b, 1, none⟩) hbW (.int .i64 (mn m f).2)
          go_wp2_with fail
          go_roundw
          case rel => exact ⟨k + 1, by omega, by omega, by simp, by rw [HST.out]; exact LB3, H3⟩
          case measure => simp [intOf]; omega
        · skip
          refine wpOp_now rfl (by rfl) ?_
          go_simp
          refine (hcall _).mono ?_
          rintro e y1 ⟨rfl, J1⟩
          have hS2 : (fun w' : World => (w'.cell? ⟨g, k * 4, none⟩ = some (.int .i64 (sAt ss k).1.1) ∧ w'.cell? ⟨g, k * 4 + 1, none⟩ = some (.int .i64 (sAt ss k).1.2) ∧ w'.cell? ⟨g, k * 4 + 2, none⟩ = some (.int .i64 (sAt ss k).2.1) ∧ w'.cell? ⟨g, k * 4 + 3, none⟩ = some (.int .i64 (sAt ss k).2.2)) ∧ w'.cell? ⟨w.heap.size, 0, none⟩ = some (.int .i64 p.1) ∧ w'.cell? ⟨w.heap.size, 1, none⟩ = some (.int .i64 p.2)) y1 := ⟨cB4 J1 hS1.1, cellB J1 hS1.2.1, cellB J1 hS1.2.2⟩
          refine ⟨hS2, ?_⟩
          obtain ⟨l0', l1'⟩ := blk_2 (keep J1 (show wr.drew.heap[b]? = _ from LB))
          refine wpAnyH_all (rs := [0]) (by kernel_rfl) (by simp) ?_
          intro i hi
          obtain rfl : i = 0 := by simpa using hi
          refine YieldsIf.wpOp (S := fun w' => w' = y1) (v := .agg #[.int .i64 m.1, .int .i64 m.2]) rfl (Or.inl ⟨by rfl, by rintro w' rfl; go_simp⟩) rfl ⟨hS2, ?_⟩
          refine wpAnyH_all (rs := [7]) (by kernel_rfl) (by simp) ?_
          intro i hi
          obtain rfl : i = 7 := by simpa using hi
          refine wpOp_now rfl (by rfl) ?_
          go_simp
          refine (hL _).mono ?_
          rintro e y2 ⟨rfl, J2⟩
          have hS3 : (fun w' : World => (w'.cell? ⟨g, k * 4, none⟩ = some (.int .i64 (sAt ss k).1.1) ∧ w'.cell? ⟨g, k * 4 + 1, none⟩ = some (.int .i64 (sAt ss k).1.2) ∧ w'.cell? ⟨g, k * 4 + 2, none⟩ = some (.int .i64 (sAt ss k).2.1) ∧ w'.cell? ⟨g, k * 4 + 3, none⟩ = some (.int .i64 (sAt ss k).2.2)) ∧ w'.cell? ⟨w.heap.size, 0, none⟩ = some (.int .i64 p.1) ∧ w'.cell? ⟨w.heap.size, 1, none⟩ = some (.int .i64 p.2)) y2 := ⟨cB4 J2 hS2.1, cellB J2 hS2.2.1, cellB J2 hS2.2.2⟩
          refine ⟨hS3, ?_⟩
          have H2 : Below W.heap.size W y2 := bw_trans (bw_trans H.drew J1) J2
          have LB2 := keep J2 (keep J1 (show wr.drew.heap[b]? = _ from LB))
          obtain ⟨q0, q1, qf0, qf1⟩ := blkF LB2
          refine wpAnyH_all (rs := [8]) (by kernel_rfl) (by simp) ?_
          intro i hi
          obtain rfl : i = 8 := by simpa using hi
          refine wpOp_now rfl (by rfl) ?_
          go_simp
          refine wpAnyH_done (by kernel_rfl) ?_ _
          try simp only [Exit.inBlock, Exit.then]
          have LB3 := setF2 LB2 (u0 := .int .i64 (mn m f).1) (u1 := .int .i64 (mn m f).2)
          have H3 := bw_set (bw_set H2 (p := ⟨b, 0, none⟩) hbW (.int .i64 (mn m f).1)) (p := ⟨b, 1, none⟩) hbW (.int .i64 (mn m f).2)
          go_wp2_with fail
          go_roundw
          case rel => exact ⟨k + 1, by omega, by omega, by simp, by rw [HST.out]; exact LB3, H3⟩
          case measure => simp [intOf]; omega
end Go.Proofs.YtlikfcfblkckaaaDoor
namespace Go.Proofs.YtlikfcfblkckaaaDoor
open Go.RowKit Go.Sort

/-- A row of edges that a call made itself. -/
theorem row_of_owns {base : Nat} {W : World} {v : Value} {ss : List (P2 × P2)} (h : W.ownsRow base 98 4 v ss.length (cellsS ss)) (hs : 0 < ss.length) : ∃ g c, v = .slice (some ⟨g, 0, none⟩) ss.length c ∧ g < W.heap.size ∧ SRow W g ss := by
  have := AnsS.of_owns h rfl
  rcases this with ⟨rfl, a, c, rfl⟩ | ⟨g, c, rfl, _, _, _, hO, hS⟩
  · simp at hs
  · exact ⟨g, c, rfl, hO.lt, hS⟩
set_option maxRecDepth 100000 in
set_option maxHeartbeats 2000000 in
theorem sPlateFar_any (a ah : Option Addr) (la ca nh ch : Nat) (o : List P2) (hs : List (List P2)) (p : P2) (w : World) (h : Plt w a la ah nh o hs) :
    Calls Tryd.prog 7 #[.agg #[.slice a la ca, .slice ah nh ch], .agg #[.int .i64 p.1, .int .i64 p.2]] w fun e W' => e = .returned (.agg #[.int .i64 (plFV o hs p).1, .int .i64 (plFV o hs p).2]) ∧ Below w.heap.size w W' := by
  obtain ⟨W, hW, BW, TP, T, RB⟩ := boxes3 w (.cells #[.slice a la ca, .slice ah nh ch] 26) (.cells #[.int .i64 p.1, .int .i64 p.2] 28) (.cells #[.int .i64 0, .int .i64 0] 32)
  have hh := h.below BW
  obtain ⟨t0, t1⟩ := blk_2 TP
  have zP := blk_lt TP
  have zR := blk_lt RB
  have zB := BW.size
  have hcall := sPlateOk_any a ah la ca nh ch o hs W hh
  cases hv : plV o hs
  · rw [hv] at hcall
    have e1 : Hid (plFV o hs p = (0, 0)) := plFV_no (.inl hv)
    go_enter Tryd.func7, Tryd.ntmps7
    go_upto_region 1 with fail
    rw [← hW]
    clear hW
    go_wp2_with (go_at_call 8; refine hcall.mono ?_; rintro e w1 ⟨rfl, J⟩; have RB1 := keep J RB; obtain ⟨q0, q1, qf0, qf1⟩ := blkF RB1)
    have RB2 := setF2 RB1 (u0 := .int .i64 0) (u1 := .int .i64 0)
    obtain ⟨v0, v1⟩ := blk_2 RB2
    exact bodyPost_ret (v := .agg #[.int .i64 0, .int .i64 0]) (by simp [results, Tryd.results7, go_sem, v0, v1]) rfl ⟨by rw [e1.out], bw_set (bw_set (bw_trans BW J) (p := ⟨w.heap.size + 2, 0, none⟩) (by dsimp only; omega) _) (p := ⟨w.heap.size + 2, 1, none⟩) (by dsimp only; omega) _⟩
  rw [hv] at hcall
  cases hp : ptB p.1 p.2
  · have e1 : Hid (plFV o hs p = (0, 0)) := plFV_no (.inr hp)
    go_enter Tryd.func7, Tryd.ntmps7
    go_upto_region 1 with fail
    rw [← hW]
    clear hW
    go_wp2_with (go_at_call 8; refine hcall.mono ?_; rintro e w1 ⟨rfl, J⟩; obtain ⟨s0, s1⟩ := blk_2 (keep J T))
    refine (sPt_raw p _).mono ?_
    rw [hp]
    rintro e w2 ⟨rfl, J2⟩
    have RB1 := keep (bw_trans J J2) RB
    obtain ⟨q0, q1, qf0, qf1⟩ := blkF RB1
    have RB2 := setF2 RB1 (u0 := .int .i64 0) (u1 := .int .i64 0)
    obtain ⟨v0, v1⟩ := blk_2 RB2
    go_wp2_with fail
    exact bodyPost_ret (v := .agg #[.int .i64 0, .int .i64 0]) (by simp [results, Tryd.results7, go_sem, v0, v1]) rfl ⟨by rw [e1.out], bw_set (bw_set (bw_trans (bw_trans BW J) J2) (p := ⟨w.heap.size + 2, 0, none⟩) (by dsimp only; omega) _) (p := ⟨w.heap.size + 2, 1, none⟩) (by dsimp only; omega) _⟩
  · have e1 : Hid (plFV o hs p = plFI o hs p) := plFV_ok hv hp
    have n3 := plE_ne hv
    have n24 := plE_len o hs
    have hok : ∀ s ∈ plE o hs, sgP s.1 s.2 = true := fun s hs => plE_ok hv hs
    go_enter Tryd.func7, Tryd.ntmps7
    go_upto_region 1 with fail
    rw [← hW]
    clear hW
    go_wp2_with (go_at_call 8; refine hcall.mono ?_; rintro e w1 ⟨rfl, J⟩; obtain ⟨s0, s1⟩ := blk_2 (keep J T))
    refine (sPt_raw p _).mono ?_
    rw [hp]
    rintro e w2 ⟨rfl, J2⟩
    have J3 := bw_trans J J2
    clear s0 s1 t0 t1
    obtain ⟨s0, s1⟩ := blk_2 (keep J3 T)
    obtain ⟨t0, t1⟩ := blk_2 (keep J3 TP)
    have hmx : Tryd.prog.follows .mixedOrders = true := by kernel_rfl
    have hS1 : (fun w' : World => (w'.cell? ⟨w.heap.size, 0, none⟩ = some (.slice a la ca) ∧ w'.cell? ⟨w.heap.size, 1, none⟩ = some (.slice ah nh ch)) ∧ w'.cell? ⟨w.heap.size + 1, 0, none⟩ = some (.int .i64 p.1) ∧ w'.cell? ⟨w.heap.size + 1, 1, none⟩ = some (.int .i64 p.2)) w2.drew := ⟨⟨t0, t1⟩, s0, s1⟩
    have hE := l11Edges_ok a ah la ca nh ch o hs hv w2.drew ((hh.below J3).below (bw_drew (bw_refl _)))
    obtain ⟨N, hN⟩ : ∃ N, (plE o hs).length = N := ⟨_, rfl⟩
    have hX : Hid (∀ g c v, SRow v g (plE o hs) → g < v.heap.size → Calls Tryd.prog 22 #[.slice (some ⟨g, 0, none⟩) N c, .agg #[.int .i64 p.1, .int .i64 p.2]] v fun e W' => e = .returned (.agg #[.int .i64 (plFV o hs p).1, .int .i64 (plFV o hs p).2]) ∧ Below v.heap.size v W') := fun g c v hR hg => by
      have := sL11Far_ok g N c (plE o hs) p v hR hg hN (by omega) (by omega) hok hp
      rw [e1.out]; exact this
    clear hok n24
    go_wp2_with fail
    refine wp_region_held (S := (fun w' : World => (w'.cell? ⟨w.heap.size, 0, none⟩ = some (.slice a la ca) ∧ w'.cell? ⟨w.heap.size, 1, none⟩ = some (.slice ah nh ch)) ∧ w'.cell? ⟨w.heap.size + 1, 0, none⟩ = some (.int .i64 p.1) ∧ w'.cell? ⟨w.heap.size + 1, 1, none⟩ = some (.int .i64 p.2))) hmx ?_
    refine wpAnyH_take (i := 0) (v := .agg #[.slice a la ca, .slice ah nh ch]) rfl (by kernel_rfl) (by kernel_rfl) (by kernel_rfl) (fun _ _ _ h => h) (Or.inl ⟨by rfl, by rintro w' ⟨⟨s1, s2⟩, s3, s4⟩; go_simp⟩) hS1 ?_
    refine wpAnyH_take (i := 2) (v := .agg #[.int .i64 p.1, .int .i64 p.2]) rfl (by kernel_rfl) (by kernel_rfl) (by kernel_rfl) (fun _ _ _ h => h) (Or.inl ⟨by rfl, by rintro w' ⟨⟨s1, s2⟩, s3, s4⟩; go_simp⟩) hS1 ?_
    refine wpAnyH_all (rs := [1]) (by kernel_rfl) (by simp) ?_
    intro i hi
    obtain rfl : i = 1 := by simpa using hi
    refine wpOp_now rfl (by rfl) ?_
    go_simp
    refine hE.mono ?_
    rintro e y1 ⟨v, rfl, ho, J4⟩
    obtain ⟨g, c, rfl, hg, hR⟩ := row_of_owns ho (by omega)
    rw [hN]
    have hS2 : (fun w' : World => (w'.cell? ⟨w.heap.size, 0, none⟩ = some (.slice a la ca) ∧ w'.cell? ⟨w.heap.size, 1, none⟩ = some (.slice ah nh ch)) ∧ w'.cell? ⟨w.heap.size + 1, 0, none⟩ = some (.int .i64 p.1) ∧ w'.cell? ⟨w.heap.size + 1, 1, none⟩ = some (.int .i64 p.2)) y1 := ⟨⟨cellB J4 hS1.1.1, cellB J4 hS1.1.2⟩, cellB J4 hS1.2.1, cellB J4 hS1.2.2⟩
    refine ⟨hS2, ?_⟩
    refine wpAnyH_all (rs := [3]) (by kernel_rfl) (by simp) ?_
    intro i hi
    obtain rfl : i = 3 := by simpa using hi
    refine wpOp_now rfl (by rfl) ?_
    go_simp
    refine (hX.out g c _ hR hg).mono ?_
    rintro e y2 ⟨rfl, J5⟩
    have hS3 : (fun w' : World => (w'.cell? ⟨w.heap.size, 0, none⟩ = some (.slice a la ca) ∧ w'.cell? ⟨w.heap.size, 1, none⟩ = some (.slice ah nh ch)) ∧ w'.cell? ⟨w.heap.size + 1, 0, none⟩ = some (.int .i64 p.1) ∧ w'.cell? ⟨w.heap.size + 1, 1, none⟩ = some (.int .i64 p.2)) y2 := ⟨⟨cellB J5 hS2.1.1, cellB J5 hS2.1.2⟩, cellB J5 hS2.2.1, cellB J5 hS2.2.2⟩
    refine ⟨hS3, ?_⟩
    have RB1 := keep (bw_trans (bw_trans J3.drew J4) J5) RB
    obtain ⟨q0, q1, qf0, qf1⟩ := blkF RB1
    refine wpAnyH_all (rs := [4]) (by kernel_rfl) (by simp) ?_
    intro i hi
    obtain rfl : i = 4 := by simpa using hi
    refine wpOp_now rfl (by rfl) ?_
    go_simp
    refine wpAnyH_done (by kernel_rfl) ?_ _
    try simp only [Exit.then]
    have RB2 := setF2 RB1 (u0 := .int .i64 (plFV o hs p).1) (u1 := .int .i64 (plFV o hs p).2)
    obtain ⟨v0, v1⟩ := blk_2 RB2
    go_wp2_with fail
    exact bodyPost_ret (v := .agg #[.int .i64 (plFV o hs p).1, .int .i64 (plFV o hs p).2]) (by simp [results, Tryd.results7, go_sem, v0, v1]) rfl ⟨rfl, bw_set (bw_set (bw_trans (bw_trans (bw_trans BW J3.drew) J4) J5) (p := ⟨w.heap.size + 2, 0, none⟩) (by dsimp only; omega) _) (p := ⟨w.heap.size + 2, 1, none⟩) (by dsimp only; omega) _⟩
end Go.Proofs.YtlikfcfblkckaaaDoor
namespace Go.Proofs.YtlikfcfblkckaaaDoor
open Go.RowKit Go.Sort

theorem plInV_ok {o : List P2} {hs : List (List P2)} {p : P2} (h : plV o hs = true) (hp : ptB p.1 p.2 = true) : plInV o hs p = plI o hs p := by unfold plInV; rw [h, hp]; rfl
theorem plInV_no {o : List P2} {hs : List (List P2)} {p : P2} (h : plV o hs = false) : plInV o hs p = -1 := by unfold plInV; rw [h]; rfl
theorem inV_ok {l : List P2} {p : P2} (h : okV l = true) (hp : ptB p.1 p.2 = true) : inV l p = inI l p := by unfold inV; rw [h, hp]; rfl
theorem Plt.less {W : World} {a ah : Option Addr} {la m : Nat} {o x : List P2} {hs : List (List P2)} (h : Plt W a la ah (m + 1) o (hs ++ [x])) : Plt W a la ah m o hs := by
  obtain ⟨h1, h2, h3, A, L, C, h4, h5⟩ := h
  have hm : hs.length = m := by simpa using h3
  refine ⟨h1, h2, hm, A, L, C, ?_, fun j hj => ?_⟩
  · rcases h4 with h | ⟨b, off, e, hb, hc⟩
    · omega
    · exact .inr ⟨b, off, e, hb, fun j hj => hc j (by omega)⟩
  · have := h5 j (by omega)
    rwa [List.getElem?_append_left (by omega)] at this
theorem PlD.hole {base : Nat} {W : World} {o : LoopT} {gh ch : Nat} {hs : List LoopT} (h : PlD base W o (.slice (some ⟨gh, 0, none⟩) hs.length ch) hs) {j : Nat} (hj : j < hs.length) :
    ∃ gt nt ct lt, hs[j]? = some (⟨gt, nt, ct, lt⟩ : LoopT) ∧ (hs.map LoopT.l)[j]?.getD [] = lt ∧ W.cell? ⟨gh, j, none⟩ = some (.slice (some ⟨gt, 0, none⟩) nt ct) ∧ 3 ≤ nt ∧ nt ≤ 8 ∧ lt.length = nt ∧ PtBlk W gt ct lt nt := by
  obtain ⟨_, _, hr, ht⟩ := h
  have hc := own_news hr (j := j) (u := (hs[j]).v) (by simp [hj])
  rw [show ((⟨gh, 0, none⟩ : Addr).add j) = ⟨gh, j, none⟩ by unfold Addr.add; split <;> simp_all] at hc
  have hk := ht hs[j] (List.getElem_mem hj)
  have e1 : hs[j]? = some hs[j] := by simp [hj]
  have e2 : (hs.map LoopT.l)[j]?.getD [] = hs[j].l := by simp [hj]
  generalize hs[j] = t at *
  obtain ⟨gt, nt, ct, lt⟩ := t
  obtain ⟨k1, k2, k3, k4, k5, k6, k7⟩ := hk
  exact ⟨gt, nt, ct, lt, e1, e2, hc, k1, k2, k3, k7⟩
theorem blk_pt {W : World} {g c n k : Nat} {l : List P2} (h : PtBlk W g c l n) (hk : k < n) : W.cell? ⟨g, k * 2, none⟩ = some (.int .i64 (ptAt l k).1) ∧ W.cell? ⟨g, k * 2 + 1, none⟩ = some (.int .i64 (ptAt l k).2) := by
  obtain ⟨cur, h, hs, hc⟩ := h
  rw [row_cell h, row_cell h]; exact hc k hk
theorem plt_one {W : World} {a x : Option Addr} {la lx cx b : Nat} {o xs : List P2} {t : TypeId} (hla : la ≤ 1048576) (hO : Pts W.heap.size W a la o) (hb : W.heap[b]? = some (.cells #[.slice x lx cx] t (0, 0))) (hlx : lx ≤ 1048576) (hx : Pts W.heap.size W x lx xs) : Plt W a la (some ⟨b, 0, none⟩) 1 o [xs] := by
  refine ⟨hla, hO, rfl, fun _ => x, fun _ => lx, fun _ => cx, .inr ⟨b, 0, rfl, blk_lt hb, fun j hj => ?_⟩, fun j hj => ?_⟩
  · obtain rfl : j = 0 := by omega
    rw [row_cell hb]; rfl
  · obtain rfl : j = 0 := by omega
    exact ⟨hlx, hx⟩
theorem plt_two {W : World} {a x : Option Addr} {la lx cx b : Nat} {o xs : List P2} {t : TypeId} (hla : la ≤ 1048576) (hO : Pts W.heap.size W a la o) (hb : W.heap[b]? = some (.cells #[.slice x lx cx, .slice x lx cx] t (0, 0))) (hlx : lx ≤ 1048576) (hx : Pts W.heap.size W x lx xs) : Plt W a la (some ⟨b, 0, none⟩) 2 o [xs, xs] := by
  refine ⟨hla, hO, rfl, fun _ => x, fun _ => lx, fun _ => cx, .inr ⟨b, 0, rfl, blk_lt hb, fun j hj => ?_⟩, fun j hj => ?_⟩
  · obtain rfl | rfl : j = 0 ∨ j = 1 := by omega
    · rw [row_cell hb]; rfl
    · rw [row_cell hb]; rfl
  · obtain rfl | rfl : j = 0 ∨ j = 1 := by omega
    · exact ⟨hlx, hx⟩
    · exact ⟨hlx, hx⟩
theorem plt_nil {W : World} {a : Option Addr} {la : Nat} {o : List P2} (hla : la ≤ 1048576) (hO : Pts W.heap.size W a la o) : Plt W a la none 0 o [] :=
  ⟨hla, hO, rfl, fun _ => none, fun _ => 0, fun _ => 0, .inl rfl, fun _ hj => absurd hj (Nat.not_lt_zero _)⟩
end Go.Proofs.YtlikfcfblkckaaaDoor
namespace Go.Proofs.YtlikfcfblkckaaaDoor
open Go.RowKit

theorem cmpV_leF {f g : Int × Int} (hf : OkF f) (hg : OkF g) (h : LeF f g) : cmpV f.1 f.2 g.1 g.2 ≤ 0 := by
  unfold cmpV; rw [show okB f.1 f.2 = true from hf, show okB g.1 g.2 = true from hg]; show cmpI _ _ ≤ 0; unfold cmpI
  unfold LeF at h
  split
  · omega
  · rw [if_neg (by omega)]; omega
theorem cmpV_geF {f g : Int × Int} (hf : OkF f) (hg : OkF g) (h : LeF g f) : 0 ≤ cmpV f.1 f.2 g.1 g.2 := by
  unfold cmpV; rw [show okB f.1 f.2 = true from hf, show okB g.1 g.2 = true from hg]; show 0 ≤ cmpI _ _; unfold cmpI
  unfold LeF at h
  rw [if_neg (by omega)]
  split <;> omega
/-- Two fractions, field by field. -/
theorem three' (n m d b : Int) : (n == m) = false ∨ (n = m ∧ (d == b) = false) ∨ (n = m ∧ d = b) := by
  by_cases h : n = m
  · by_cases h2 : d = b
    · exact .inr (.inr ⟨h, h2⟩)
    · exact .inr (.inl ⟨h, by simpa using h2⟩)
  · exact .inl (by simpa using h)
end Go.Proofs.YtlikfcfblkckaaaDoor
namespace Go.Proofs.YtlikfcfblkckaaaDoor
open Go.RowKit Go.Sort

set_option maxRecDepth 100000 in
set_option maxHeartbeats 8000000 in
theorem plateLess_walk (w : World) (a0 : Option Addr) (len0 cap0 : Nat) (z0 : List Int) (r0 : IsRow .u8 w a0 len0 cap0 z0) (ad : Addr) (hs0 : Sent ad w) :
    Calls Tryd.prog 3 #[.slice a0 len0 cap0] w fun e w' => e = .returned (.bool true) ∧ Below w.heap.size w w' := by
  by_cases hl : 1048576 < len0
  · go_enter Tryd.func3, Tryd.ntmps3
    go_wp2
    go_ret
    exact ⟨rfl, bw_refl _⟩
  have hl0 : len0 ≤ 1048576 := by omega
  clear hl
  go_enter Tryd.func3, Tryd.ntmps3
  go_wp2_with fail
  refine (drawPlateFar_any w _ r0 (bw_refl _)).mono ?_
  rintro e w1 ⟨⟨g, n, c, l⟩, hv, hs, x, y, he, hPB, hD, ⟨hs3, hst⟩, J1⟩
  obtain rfl : e = .returned (.tuple #[.agg #[.slice (some ⟨g, 0, none⟩) n c, hv], .agg #[.int .i64 x, .int .i64 y]]) := he
  obtain ⟨gh, ch, rfl⟩ : ∃ gh ch, hv = .slice (some ⟨gh, 0, none⟩) hs.length ch := own_seat hD.2.2.1 hst
  obtain ⟨W, hW, BW, T, T2⟩ := boxes2 w1 (.cells #[.slice (some ⟨g, 0, none⟩) n c, .slice (some ⟨gh, 0, none⟩) hs.length ch] 26) (.cells #[.int .i64 x, .int .i64 y] 28)
  replace hD := hD.below BW
  have K := bw_trans J1 BW
  go_upto_region 5 with fail
  rw [← hW]
  clear hW BW J1
  have hPl := hD.plt
  obtain ⟨N, hNN⟩ : ∃ N, hs.length = N := ⟨_, rfl⟩
  have HN : Hid (hs.length = N) := hNN
  rw [hNN] at T hPl
  rw [hNN]
  clear hNN
  obtain ⟨t0, t1⟩ := blk_2 T
  obtain ⟨u0, u1⟩ := blk_2 T2
  go_wp2_with fail
  refine (plateFar_any _ _ n c N ch l _ (x, y) ad _ (hs0.below K) hPl).mono ?_
  rintro e w2 ⟨rfl, J⟩
  obtain ⟨f, hf⟩ : ∃ f, plFV l (hs.map LoopT.l) (x, y) = f := ⟨_, rfl⟩
  rw [hf]
  obtain ⟨W2, hW2, B2, F⟩ : ∃ W2, W2 = w2.alloc (.cells #[.int .i64 f.1, .int .i64 f.2] 32) ∧ Below w2.heap.size w2 W2 ∧ W2.heap[w2.heap.size]? = some (.cells #[.int .i64 f.1, .int .i64 f.2] 32 (0, 0)) := ⟨_, rfl, (by repeat (first | exact bw_refl _ | assumption | apply bw_drewN | apply bw_drew | apply bw_alloc | refine bw_set ?_ (by simp) _)), heap_new _ _⟩
  have J2 := bw_trans J B2
  replace K := bw_trans K J2
  replace T := keep J2 T
  replace T2 := keep J2 T2
  replace hD := hD.below J2
  replace hPl := hPl.below J2
  clear J J2 B2 t0 t1 u0 u1
  go_upto_region 6 with fail
  rw [← hW2]
  clear hW2
  obtain ⟨t0, t1⟩ := reg_2 T
  obtain ⟨u0, u1⟩ := reg_2 T2
  obtain ⟨f0, f1⟩ := reg_2 F
  have HY : Hid (∀ V, Below W2.heap.size W2 V → ∀ d os, Calls Tryd.prog 7 #[.agg #[.slice (some ⟨g, 0, none⟩) n c, .slice (some ⟨gh, 0, none⟩) N ch], .agg #[.int .i64 x, .int .i64 y]] (grow (redrawn V d) os) fun e W' => e = .returned (.agg #[.int .i64 f.1, .int .i64 f.2]) ∧ Below (grow (redrawn V d) os).heap.size (grow (redrawn V d) os) W') := fun V hV d os => by
    have := sPlateFar_any (some ⟨g, 0, none⟩) (some ⟨gh, 0, none⟩) n c N ch l _ (x, y) _ ((hPl.below hV).below (below_regrown V d os))
    rwa [hf] at this
  have Y0 : Hid (∀ d os, Calls Tryd.prog 7 #[.agg #[.slice (some ⟨g, 0, none⟩) n c, .slice (some ⟨gh, 0, none⟩) N ch], .agg #[.int .i64 x, .int .i64 y]] (grow (redrawn W2 d) os) fun e W' => e = .returned (.agg #[.int .i64 f.1, .int .i64 f.2]) ∧ Below (grow (redrawn W2 d) os).heap.size (grow (redrawn W2 d) os) W') := HY.out W2 (bw_refl _)
  have hOk := fun d os => sPlateOk_any (some ⟨g, 0, none⟩) (some ⟨gh, 0, none⟩) n c N ch l _ _ (hPl.below (below_regrown W2 d os))
  have hPtk := fun d os => sPt_any x y (grow (redrawn W2 d) os)
  cases hv : plV l (hs.map LoopT.l)
  case false =>
    have G0 : Hid (∀ d os, Calls Tryd.prog 8 #[.agg #[.slice (some ⟨g, 0, none⟩) n c, .slice (some ⟨gh, 0, none⟩) N ch]] (grow (redrawn W2 d) os) fun e W' => e = .returned (.bool false) ∧ Below (grow (redrawn W2 d) os).heap.size (grow (redrawn W2 d) os) W') := fun d os => by have := hOk d os; rwa [hv] at this
    clear hOk hPtk
    refine wp_region_quiet_below (by kernel_rfl) (by kernel_rfl) ?_
    repeat (first | go_big_quiet_step (first | (go_at_call 7; with_reducible exact Calls.regrown_of (Y0.out _ _)) | (go_at_call 8; with_reducible exact Calls.regrown_of (G0.out _ _))))
    refine wpQuiet_nil ?_
    intro _ hw'
    obtain ⟨⟨dq, osq⟩, hw''⟩ := hw'
    subst hw''
    have J := below_regrown W2 dq osq
    generalize grow (redrawn W2 dq) osq = v1 at J ⊢
    replace T := keep J T
    replace T2 := keep J T2
    replace F := keep J F
    replace K := bw_trans K J
    have Y1 := HY.out v1 J
    have Y1' : Hid (∀ d os, Calls Tryd.prog 7 #[.agg #[.slice (some ⟨g, 0, none⟩) n c, .slice (some ⟨gh, 0, none⟩) N ch], .agg #[.int .i64 x, .int .i64 y]] (grow (redrawn v1 d) os) fun e W' => e = .returned (.agg #[.int .i64 f.1, .int .i64 f.2]) ∧ Below (grow (redrawn v1 d) os).heap.size (grow (redrawn v1 d) os) W') := Y1
    clear J t0 t1 u0 u1 f0 f1 Y1 Y0
    obtain ⟨t0, t1⟩ := reg_2 T
    obtain ⟨u0, u1⟩ := reg_2 T2
    obtain ⟨f0, f1⟩ := reg_2 F
    go_upto_region 7 with fail
    refine wp_region_quiet_below (by kernel_rfl) (by kernel_rfl) ?_
    repeat (first | go_big_quiet_step (first | (go_at_call 7; with_reducible exact Calls.regrown_of (Y1'.out _ _))))
    refine wpQuiet_nil ?_
    intro _ hw'
    obtain ⟨⟨dq, osq⟩, hw''⟩ := hw'
    subst hw''
    have J := below_regrown v1 dq osq
    generalize grow (redrawn v1 dq) osq = v2 at J ⊢
    go_wp2_with fail
    go_ret
    exact ⟨rfl, bw_trans K J⟩
  cases hp : ptB x y
  case false =>
    have G0 : Hid (∀ d os, Calls Tryd.prog 8 #[.agg #[.slice (some ⟨g, 0, none⟩) n c, .slice (some ⟨gh, 0, none⟩) N ch]] (grow (redrawn W2 d) os) fun e W' => e = .returned (.bool true) ∧ Below (grow (redrawn W2 d) os).heap.size (grow (redrawn W2 d) os) W') := fun d os => by have := hOk d os; rwa [hv] at this
    have G1 : Hid (∀ d os, Calls Tryd.prog 9 #[.agg #[.int .i64 x, .int .i64 y]] (grow (redrawn W2 d) os) fun e W' => e = .returned (.bool false) ∧ Below (grow (redrawn W2 d) os).heap.size (grow (redrawn W2 d) os) W') := fun d os => by have := hPtk d os; rwa [hp] at this
    clear hOk hPtk
    refine wp_region_quiet_below (by kernel_rfl) (by kernel_rfl) ?_
    repeat (first | go_big_quiet_step (first | (go_at_call 7; with_reducible exact Calls.regrown_of (Y0.out _ _)) | (go_at_call 8; with_reducible exact Calls.regrown_of (G0.out _ _)) | (go_at_call 9; with_reducible exact Calls.regrown_of (G1.out _ _))))
    refine wpQuiet_nil ?_
    intro _ hw'
    obtain ⟨⟨dq, osq⟩, hw''⟩ := hw'
    subst hw''
    have J := below_regrown W2 dq osq
    generalize grow (redrawn W2 dq) osq = v1 at J ⊢
    replace T := keep J T
    replace T2 := keep J T2
    replace F := keep J F
    replace K := bw_trans K J
    have Y1 := HY.out v1 J
    have Y1' : Hid (∀ d os, Calls Tryd.prog 7 #[.agg #[.slice (some ⟨g, 0, none⟩) n c, .slice (some ⟨gh, 0, none⟩) N ch], .agg #[.int .i64 x, .int .i64 y]] (grow (redrawn v1 d) os) fun e W' => e = .returned (.agg #[.int .i64 f.1, .int .i64 f.2]) ∧ Below (grow (redrawn v1 d) os).heap.size (grow (redrawn v1 d) os) W') := Y1
    clear J t0 t1 u0 u1 f0 f1 Y1 Y0
    obtain ⟨t0, t1⟩ := reg_2 T
    obtain ⟨u0, u1⟩ := reg_2 T2
    obtain ⟨f0, f1⟩ := reg_2 F
    go_upto_region 7 with fail
    refine wp_region_quiet_below (by kernel_rfl) (by kernel_rfl) ?_
    repeat (first | go_big_quiet_step (first | (go_at_call 7; with_reducible exact Calls.regrown_of (Y1'.out _ _))))
    refine wpQuiet_nil ?_
    intro _ hw'
    obtain ⟨⟨dq, osq⟩, hw''⟩ := hw'
    subst hw''
    have J := below_regrown v1 dq osq
    generalize grow (redrawn v1 dq) osq = v2 at J ⊢
    go_wp2_with fail
    go_ret
    exact ⟨rfl, bw_trans K J⟩
  have G0 : Hid (∀ d os, Calls Tryd.prog 8 #[.agg #[.slice (some ⟨g, 0, none⟩) n c, .slice (some ⟨gh, 0, none⟩) N ch]] (grow (redrawn W2 d) os) fun e W' => e = .returned (.bool true) ∧ Below (grow (redrawn W2 d) os).heap.size (grow (redrawn W2 d) os) W') := fun d os => by have := hOk d os; rwa [hv] at this
  have G1 : Hid (∀ d os, Calls Tryd.prog 9 #[.agg #[.int .i64 x, .int .i64 y]] (grow (redrawn W2 d) os) fun e W' => e = .returned (.bool true) ∧ Below (grow (redrawn W2 d) os).heap.size (grow (redrawn W2 d) os) W') := fun d os => by have := hPtk d os; rwa [hp] at this
  clear hOk hPtk
  have hfI : plFI l (hs.map LoopT.l) (x, y) = f := by rw [← hf]; exact (plFV_ok hv hp).symm
  rcases List.eq_nil_or_concat hs with rfl | ⟨hs', t, hhs⟩
  · obtain rfl : N = 0 := by have := HN.out; simp at this; omega
    refine wp_region_quiet_below (by kernel_rfl) (by kernel_rfl) ?_
    repeat (first | go_big_quiet_step (first | (go_at_call 7; with_reducible exact Calls.regrown_of (Y0.out _ _)) | (go_at_call 8; with_reducible exact Calls.regrown_of (G0.out _ _)) | (go_at_call 9; with_reducible exact Calls.regrown_of (G1.out _ _))))
    refine wpQuiet_nil ?_
    intro _ hw'
    obtain ⟨⟨dq, osq⟩, hw''⟩ := hw'
    subst hw''
    have J := below_regrown W2 dq osq
    generalize grow (redrawn W2 dq) osq = v1 at J ⊢
    replace T := keep J T
    replace T2 := keep J T2
    replace F := keep J F
    replace K := bw_trans K J
    have Y1 : Hid (∀ d os, Calls Tryd.prog 7 #[.agg #[.slice (some ⟨g, 0, none⟩) n c, .slice (some ⟨gh, 0, none⟩) 0 ch], .agg #[.int .i64 x, .int .i64 y]] (grow (redrawn v1 d) os) fun e W' => e = .returned (.agg #[.int .i64 f.1, .int .i64 f.2]) ∧ Below (grow (redrawn v1 d) os).heap.size (grow (redrawn v1 d) os) W') := HY.out v1 J
    clear J t0 t1 u0 u1 f0 f1 Y0
    obtain ⟨t0, t1⟩ := reg_2 T
    obtain ⟨u0, u1⟩ := reg_2 T2
    obtain ⟨f0, f1⟩ := reg_2 F
    go_upto_region 7 with fail
    refine wp_region_quiet_below (by kernel_rfl) (by kernel_rfl) ?_
    repeat (first | go_big_quiet_step (first | (go_at_call 7; with_reducible exact Calls.regrown_of (Y1.out _ _))))
    refine wpQuiet_nil ?_
    intro _ hw'
    obtain ⟨⟨dq, osq⟩, hw''⟩ := hw'
    subst hw''
    have J := below_regrown v1 dq osq
    generalize grow (redrawn v1 dq) osq = v2 at J ⊢
    go_wp2_with fail
    go_ret
    exact ⟨rfl, bw_trans K J⟩
  rw [List.concat_eq_append] at hhs
  obtain ⟨gt, nt, ct, lt⟩ := t
  obtain ⟨m, hm⟩ : ∃ m, hs'.length = m := ⟨_, rfl⟩
  have hml : hs.length = m + 1 := by rw [hhs]; simp [hm]
  have hN2 : N = m + 1 := by have := HN.out; omega
  have hm3 : (m : Int) ≤ 3 := by omega
  have i3 : ((m : Int) + 1 == 0) = false := by simp; omega
  subst hN2
  refine wp_region_quiet_below (by kernel_rfl) (by kernel_rfl) ?_
  repeat (first | go_big_quiet_step (first | (go_at_call 7; with_reducible exact Calls.regrown_of (Y0.out _ _)) | (go_at_call 8; with_reducible exact Calls.regrown_of (G0.out _ _)) | (go_at_call 9; with_reducible exact Calls.regrown_of (G1.out _ _))))
  refine wpQuiet_nil ?_
  intro _ hw'
  obtain ⟨⟨dq, osq⟩, hw''⟩ := hw'
  subst hw''
  have J := below_regrown W2 dq osq
  generalize grow (redrawn W2 dq) osq = v1 at J ⊢
  replace T := keep J T
  replace T2 := keep J T2
  replace F := keep J F
  replace K := bw_trans K J
  replace hD := hD.below J
  replace hPl := hPl.below J
  clear J t0 t1 u0 u1 f0 f1 G0 G1 HY Y0
  have hmap : hs.map LoopT.l = hs'.map LoopT.l ++ [lt] := by rw [hhs]; simp
  have htk := hD.2.2.2 ⟨gt, nt, ct, lt⟩ (by rw [hhs]; simp)
  have hcap : m + 1 ≤ ch := by
    rcases hD.2.2.1.2 with ⟨e, _⟩ | ⟨g', c', cur, e, _, _, h1, _⟩
    · cases e
    · cases e; omega
  have hcell := own_news hD.2.2.1 (j := m) (u := .slice (some ⟨gt, 0, none⟩) nt ct) (by rw [hhs]; simp [← hm, LoopT.v])
  rw [show ((⟨gh, 0, none⟩ : Addr).add m) = ⟨gh, m, none⟩ by unfold Addr.add; split <;> simp_all] at hcell
  rw [hmap] at hPl hv hfI
  have hPq := hPl.less
  have hv' : plV l (hs'.map LoopT.l) = true := by have := plV_less hv; rwa [List.dropLast_concat] at this
  have hok : okV lt = true := ((plV_iff _ _).1 hv).ok lt (by simp)
  obtain ⟨k1, k2, k3, k4, k5, k6, k7⟩ := htk
  have hPt := blk_pts k7 k3
  have k2' : nt ≤ 1048576 := by have : nt ≤ 8 := k2; omega
  have hPn : Plt v1 (some ⟨gt, 0, none⟩) nt none 0 lt [] := plt_nil k2' hPt
  have oq := plFI_ok hv' (p := (x, y)) hp
  have oh := plFI_ok (okV_plV hok) (p := (x, y)) hp
  have hsn := plFI_snoc hv (p := (x, y)) hp
  rw [hfI] at hsn
  have hQ : ∀ V, Below v1.heap.size v1 V → Calls Tryd.prog 6 #[.agg #[.slice (some ⟨g, 0, none⟩) n c, .slice (some ⟨gh, 0, none⟩) m ch], .agg #[.int .i64 x, .int .i64 y]] V fun e W' => e = .returned (.agg #[.int .i64 (plFI l (hs'.map LoopT.l) (x, y)).1, .int .i64 (plFI l (hs'.map LoopT.l) (x, y)).2]) ∧ Below V.heap.size V W' := fun V hV => by
    have := plateFar_any _ _ n c m ch l _ (x, y) ad V (hs0.below (bw_trans K hV)) (hPq.below hV)
    rwa [plFV_ok hv' hp] at this
  have hH : ∀ V, Below v1.heap.size v1 V → Calls Tryd.prog 6 #[.agg #[.slice (some ⟨gt, 0, none⟩) nt ct, .slice none 0 0], .agg #[.int .i64 x, .int .i64 y]] V fun e W' => e = .returned (.agg #[.int .i64 (plFI lt [] (x, y)).1, .int .i64 (plFI lt [] (x, y)).2]) ∧ Below V.heap.size V W' := fun V hV => by
    have := plateFar_any _ none nt ct 0 0 lt [] (x, y) ad V (hs0.below (bw_trans K hV)) (hPn.below hV)
    rwa [plFV_ok (okV_plV hok) hp] at this
  clear hPl hPq hPn hPt k1 k2 k3 k4 k5 k6 k7 k2' hv hv' hok hmap hml hst hs3 hPB hfI hf
  generalize plFI l (hs'.map LoopT.l) (x, y) = gq at *
  generalize plFI lt [] (x, y) = gl at *
  have of : OkF f := by rw [hsn]; exact mn_ok oq oh
  have c1 : 0 ≤ cmpV gq.1 gq.2 f.1 f.2 := cmpV_geF oq of (by rw [hsn]; exact mn_le1 _ _)
  have c2 : 0 ≤ cmpV gl.1 gl.2 f.1 f.2 := cmpV_geF oh of (by rw [hsn]; exact mn_le2 _ _)
  have hor : gq = f ∨ gl = f := by rw [hsn]; rcases mn_mem gq gl with e | e <;> rw [e] <;> simp
  clear hsn of oq oh
  have i0 : (0 : Int) ≤ (m : Int) := Int.natCast_nonneg _
  have i1 : (m : Int) < (m : Int) + 1 := by omega
  have i2 : (m : Int) ≤ (ch : Int) := by omega
  have i5 : (m : Int) + 1 ≤ (ch : Int) := by omega
  have i4 : (ch = 0) = False := by simp; omega
  have zT := blk_lt T
  have zT2 := blk_lt T2
  have zF := blk_lt F
  have zgh : gh < v1.heap.size := World.block_lt_of_cell? _ _ hcell
  have hS0 : (fun w' : World => (w'.cell? ⟨w1.heap.size, 0, none⟩ = some (.slice (some ⟨g, 0, none⟩) n c) ∧ w'.cell? ⟨w1.heap.size, 1, none⟩ = some (.slice (some ⟨gh, 0, none⟩) (m + 1) ch) ∧ w'.cell? ⟨w1.heap.size + 1, 0, none⟩ = some (.int .i64 x) ∧ w'.cell? ⟨w1.heap.size + 1, 1, none⟩ = some (.int .i64 y) ∧ w'.cell? ⟨gh, m, none⟩ = some (.slice (some ⟨gt, 0, none⟩) nt ct) ∧ w'.cell? ⟨gh, m, none⟩ = some (.slice (some ⟨gt, 0, none⟩) nt ct))) v1 := ⟨(blk_2 T).1, (blk_2 T).2, (blk_2 T2).1, (blk_2 T2).2, hcell, hcell⟩
  obtain ⟨t0, t1⟩ := blk_2 T
  go_wp2_with fail
  go_cut [7] (fun s9 wc => ∃ bx, s9 = .pointer (some ⟨bx, 0, none⟩) ∧ wc.heap[bx]? = some (.cells #[.int .i64 gq.1, .int .i64 gq.2] 32 (0, 0)) ∧ Below v1.heap.size v1 wc)
  case first =>
    have H := bw_drew (bw_refl v1)
    go_region_held3 (fun w' : World => (w'.cell? ⟨w1.heap.size, 0, none⟩ = some (.slice (some ⟨g, 0, none⟩) n c) ∧ w'.cell? ⟨w1.heap.size, 1, none⟩ = some (.slice (some ⟨gh, 0, none⟩) (m + 1) ch) ∧ w'.cell? ⟨w1.heap.size + 1, 0, none⟩ = some (.int .i64 x) ∧ w'.cell? ⟨w1.heap.size + 1, 1, none⟩ = some (.int .i64 y) ∧ w'.cell? ⟨gh, m, none⟩ = some (.slice (some ⟨gt, 0, none⟩) nt ct) ∧ w'.cell? ⟨gh, m, none⟩ = some (.slice (some ⟨gt, 0, none⟩) nt ct))) (first | with_reducible exact cB6 KK (by assumption) | with_reducible exact cA6 (by assumption) | exact hS0 | exact cA6 hS0 | with_reducible exact cL6 (by assumption) (by have := H.size; dsimp only; omega) (by have := H.size; dsimp only; omega) (by have := H.size; dsimp only; omega) (by have := H.size; dsimp only; omega) (by have := H.size; dsimp only; omega) (by have := H.size; dsimp only; omega) | exact cS6 (by assumption) (by dsimp only; omega) (by dsimp only; omega) (by dsimp only; omega) (by dsimp only; omega) (by dsimp only; omega) (by dsimp only; omega)) ((go_at_call 6; refine (hQ _ (by first | exact H | exact bw_alloc H _)).mono ?_; rintro e zz ⟨rfl, KK⟩; (first | (replace H := bw_trans H KK) | (have AB := keep KK (heap_new _ _); replace H := bw_trans (bw_alloc H _) KK; obtain ⟨q0, q1, qf0, qf1⟩ := blkF AB))))
    all_goals go_wp2_with fail
    all_goals go_meet
    all_goals (first | exact ⟨_, rfl, heap_new _ _, bw_alloc H _⟩ | exact ⟨_, rfl, setF2 AB, bw_set (bw_set H (by dsimp only; omega) _) (by dsimp only; omega) _⟩)
  case rest =>
    obtain ⟨b7, rfl, G7, H7⟩ := hcut
    have hS1 : (fun w' : World => (w'.cell? ⟨w1.heap.size, 0, none⟩ = some (.slice (some ⟨g, 0, none⟩) n c) ∧ w'.cell? ⟨w1.heap.size, 1, none⟩ = some (.slice (some ⟨gh, 0, none⟩) (m + 1) ch) ∧ w'.cell? ⟨w1.heap.size + 1, 0, none⟩ = some (.int .i64 x) ∧ w'.cell? ⟨w1.heap.size + 1, 1, none⟩ = some (.int .i64 y) ∧ w'.cell? ⟨gh, m, none⟩ = some (.slice (some ⟨gt, 0, none⟩) nt ct) ∧ w'.cell? ⟨gh, m, none⟩ = some (.slice (some ⟨gt, 0, none⟩) nt ct))) wc := cB6 H7 hS0
    have z7 := H7.size
    have zG7 := blk_lt G7
    have hH2 : ∀ V, Below wc.heap.size wc V → Calls Tryd.prog 6 #[.agg #[.slice (some ⟨gt, 0, none⟩) nt ct, .slice none 0 0], .agg #[.int .i64 x, .int .i64 y]] V fun e W' => e = .returned (.agg #[.int .i64 gl.1, .int .i64 gl.2]) ∧ Below V.heap.size V W' := fun V hV => hH V (bw_trans H7 hV)
    clear hS0 hQ hH t0 t1
    go_wp2_with fail
    go_cut [8] (fun s9 wd => ∃ bx, s9 = .pointer (some ⟨bx, 0, none⟩) ∧ wd.heap[bx]? = some (.cells #[.int .i64 gl.1, .int .i64 gl.2] 32 (0, 0)) ∧ Below wc.heap.size wc wd)
    case first =>
      have H := bw_drew (bw_refl wc)
      go_region_held3 (fun w' : World => (w'.cell? ⟨w1.heap.size, 0, none⟩ = some (.slice (some ⟨g, 0, none⟩) n c) ∧ w'.cell? ⟨w1.heap.size, 1, none⟩ = some (.slice (some ⟨gh, 0, none⟩) (m + 1) ch) ∧ w'.cell? ⟨w1.heap.size + 1, 0, none⟩ = some (.int .i64 x) ∧ w'.cell? ⟨w1.heap.size + 1, 1, none⟩ = some (.int .i64 y) ∧ w'.cell? ⟨gh, m, none⟩ = some (.slice (some ⟨gt, 0, none⟩) nt ct) ∧ w'.cell? ⟨gh, m, none⟩ = some (.slice (some ⟨gt, 0, none⟩) nt ct))) (first | with_reducible exact cB6 KK (by assumption) | with_reducible exact cA6 (by assumption) | exact hS1 | exact cA6 hS1 | with_reducible exact cL6 (by assumption) (by have := H.size; dsimp only; omega) (by have := H.size; dsimp only; omega) (by have := H.size; dsimp only; omega) (by have := H.size; dsimp only; omega) (by have := H.size; dsimp only; omega) (by have := H.size; dsimp only; omega) | exact cS6 (by assumption) (by dsimp only; omega) (by dsimp only; omega) (by dsimp only; omega) (by dsimp only; omega) (by dsimp only; omega) (by dsimp only; omega)) ((go_at_call 6; refine (hH2 _ (by first | exact H | exact bw_alloc H _)).mono ?_; rintro e zz ⟨rfl, KK⟩; (first | (replace H := bw_trans H KK) | (have AB := keep KK (heap_new _ _); replace H := bw_trans (bw_alloc H _) KK; obtain ⟨q0, q1, qf0, qf1⟩ := blkF AB))))
      all_goals go_wp2_with fail
      all_goals go_meet
      all_goals (first | exact ⟨_, rfl, heap_new _ _, bw_alloc H _⟩ | exact ⟨_, rfl, setF2 AB, bw_set (bw_set H (by dsimp only; omega) _) (by dsimp only; omega) _⟩)
    case rest =>
      obtain ⟨b8, rfl, G8, H8⟩ := hcut
      have K8 := bw_trans (bw_trans K H7) H8
      have hs8 := hs0.below K8
      obtain ⟨f0, f1⟩ := blk_2 (keep (bw_trans H7 H8) F)
      obtain ⟨p0, p1⟩ := blk_2 (keep H8 G7)
      obtain ⟨r0', r1'⟩ := blk_2 G8
      have q1 : ∀ V, Sent ad V → Calls Tryd.prog 10 #[.agg #[.int .i64 gq.1, .int .i64 gq.2], .agg #[.int .i64 f.1, .int .i64 f.2]] V fun e w' => e = .returned (.int .i64 (cmpV gq.1 gq.2 f.1 f.2)) ∧ Below V.heap.size V w' := fun V hV => fracCmp_any gq.1 gq.2 f.1 f.2 ad V hV
      have q2 : ∀ V, Sent ad V → Calls Tryd.prog 10 #[.agg #[.int .i64 gl.1, .int .i64 gl.2], .agg #[.int .i64 f.1, .int .i64 f.2]] V fun e w' => e = .returned (.int .i64 (cmpV gl.1 gl.2 f.1 f.2)) ∧ Below V.heap.size V w' := fun V hV => fracCmp_any gl.1 gl.2 f.1 f.2 ad V hV
      generalize cmpV gq.1 gq.2 f.1 f.2 = n1 at *
      generalize cmpV gl.1 gl.2 f.1 f.2 = n2 at *
      have tail : ∀ (p : Prop), p → p := fun _ h => h
      clear tail hS1 hH2
      rcases three' gq.1 f.1 gq.2 f.2 with a | ⟨a, b'⟩ | ⟨a, b'⟩
      · have hlf : gl = f := hor.resolve_left (fun e => by rw [e] at a; simp at a)
        rw [hlf] at r0' r1' q2
        clear hor hlf
        go_wp2_with fail
        refine (q1 _ hs8).mono ?_
        rintro e y1 ⟨rfl, J8⟩
        have k8 := fun {a v} (h : World.cell? _ a = some v) => cellB (a := a) (v := v) J8 h
        replace f0 := k8 f0
        replace f1 := k8 f1
        replace p0 := k8 p0
        replace p1 := k8 p1
        replace r0' := k8 r0'
        replace r1' := k8 r1'
        go_wp2_with fail
        refine (q2 _ (hs8.below J8)).mono ?_
        rintro e y2 ⟨rfl, J9⟩
        have k9 := fun {a v} (h : World.cell? _ a = some v) => cellB (a := a) (v := v) J9 h
        replace f0 := k9 f0
        replace f1 := k9 f1
        replace p0 := k9 p0
        replace p1 := k9 p1
        replace r0' := k9 r0'
        replace r1' := k9 r1'
        go_wp2_with fail
        go_ret
        exact ⟨by first | rfl | simp, bw_trans (bw_trans K8 J8) J9⟩
      · have hlf : gl = f := hor.resolve_left (fun e => by rw [e] at b'; simp at b')
        rw [hlf] at r0' r1' q2
        rw [a] at p0 q1
        clear hor hlf
        go_wp2_with fail
        refine (q1 _ hs8).mono ?_
        rintro e y1 ⟨rfl, J8⟩
        have k8 := fun {a v} (h : World.cell? _ a = some v) => cellB (a := a) (v := v) J8 h
        replace f0 := k8 f0
        replace f1 := k8 f1
        replace p0 := k8 p0
        replace p1 := k8 p1
        replace r0' := k8 r0'
        replace r1' := k8 r1'
        go_wp2_with fail
        refine (q2 _ (hs8.below J8)).mono ?_
        rintro e y2 ⟨rfl, J9⟩
        have k9 := fun {a v} (h : World.cell? _ a = some v) => cellB (a := a) (v := v) J9 h
        replace f0 := k9 f0
        replace f1 := k9 f1
        replace p0 := k9 p0
        replace p1 := k9 p1
        replace r0' := k9 r0'
        replace r1' := k9 r1'
        go_wp2_with fail
        go_ret
        exact ⟨by first | rfl | simp, bw_trans (bw_trans K8 J8) J9⟩
      · have hqf : gq = f := Prod.ext a b'
        rw [hqf] at p0 p1 q1
        clear hor hqf a b'
        go_wp2_with fail
        refine (q1 _ hs8).mono ?_
        rintro e y1 ⟨rfl, J8⟩
        have k8 := fun {a v} (h : World.cell? _ a = some v) => cellB (a := a) (v := v) J8 h
        replace f0 := k8 f0
        replace f1 := k8 f1
        replace p0 := k8 p0
        replace p1 := k8 p1
        replace r0' := k8 r0'
        replace r1' := k8 r1'
        go_wp2_with fail
        refine (q2 _ (hs8.below J8)).mono ?_
        rintro e y2 ⟨rfl, J9⟩
        have k9 := fun {a v} (h : World.cell? _ a = some v) => cellB (a := a) (v := v) J9 h
        replace f0 := k9 f0
        replace f1 := k9 f1
        replace p0 := k9 p0
        replace p1 := k9 p1
        replace r0' := k9 r0'
        replace r1' := k9 r1'
        go_wp2_with fail
        go_ret
        exact ⟨by first | rfl | simp, bw_trans (bw_trans K8 J8) J9⟩
end Go.Proofs.YtlikfcfblkckaaaDoor
namespace Go.Proofs.YtlikfcfblkckaaaDoor
open Go.ChangeShapes Go.WideShapes Go.ChangeAt Go.RowKit

theorem own : ownKnob Tryd.prog.godebug = none := by kernel_rfl
theorem laidOut : laidOutB Tryd.prog = true := by kernel_rfl
theorem gE : Tryd.prog.globalNamed "loop.example/mortiser/impl.errNoFrac" = some 0 := by kernel_rfl
theorem gEType : (Tryd.prog.globals[0]?).map (·.type) = some 67 := by kernel_rfl
theorem cellsES : Tryd.prog.cellsOf 170 = 1 := by kernel_rfl
theorem cellsStr : Tryd.prog.cellsOf 9 = 1 := by kernel_rfl
theorem star : "*" ++ "errors.errorString" = "*errors.errorString" := by decide
theorem rowES (u : TypeId) (h : Tryd.prog.typeName? 3 u = some "*errors.errorString") : u = 145 :=
  typeName_ptr_named (nm := "errors.errorString") (by rw [star]; kernel_rfl) (by kernel_rfl) (by decide) u (by rw [star]; exact h)

/-- What the list gives: the variable holds a pointer to an error of errors.New's make. -/
theorem sent_of_met {W : World} (h : laidMet Tryd.prog [("loop.example/mortiser/impl.errNoFrac", Rows.laid_loop_example_mortiser_impl_errNoFrac)] W) :
    ∃ a, W.var? Tryd.prog "loop.example/mortiser/impl.errNoFrac" = some #[.iface 145 (.pointer (some a))] ∧ Sent a W := by
  obtain ⟨a, s, hv, _, _, _⟩ := laid_sentinel h gE gEType Tryd.underlying67 rowES Tryd.underlying145 Tryd.underlying170 rfl rfl Tryd.underlying9 cellsES cellsStr
  exact ⟨a, hv, by simpa [Sent] using World.var?_cell gE hv 0⟩
theorem sent_of_laid {W : World} (h : laidMetH Tryd.prog [("loop.example/mortiser/impl.errNoFrac", Rows.laid_loop_example_mortiser_impl_errNoFrac)] W) :
    ∃ a, W.var? Tryd.prog "loop.example/mortiser/impl.errNoFrac" = some #[.iface 145 (.pointer (some a))] ∧ Sent a W := by
  rw [MakeChecks.laidMetH_plain _ _ _ (by kernel_rfl)] at h
  exact sent_of_met h

/-- The variable read again as a token. -/
theorem vars_again {H : Type} (enc : TypeId × Value → H) {X : World} {a : Addr} (hv : X.var? Tryd.prog "loop.example/mortiser/impl.errNoFrac" = some #[.iface 145 (.pointer (some a))]) (sp : Nat → Bool) :
    DataW.TrodVars enc Tryd.prog X sp ["loop.example/mortiser/impl.errNoFrac"] [tok enc (.iface 145 (.pointer (some a)))] [.cell 0 0] :=
  vars_read1 enc gE gEType Tryd.underlying67 hv trivial sp

/-- The door's own heap meets the condition. -/
theorem door_met (os : Os) (args : Array Value) : laidMetH Tryd.prog [("loop.example/mortiser/impl.errNoFrac", Rows.laid_loop_example_mortiser_impl_errNoFrac)] ((World.doorLaid Tryd.prog 28 os).forCall (fun _ _ => 0) ⟨#[], args, []⟩).memory :=
  laidMetH_of_parts3 (fuel := 8) (laidMet_of_run' 8 (by kernel_rfl) (by kernel_rfl)) (by kernel_rfl) (by kernel_rfl)
end Go.Proofs.YtlikfcfblkckaaaDoor
namespace Go.Proofs.YtlikfcfblkckaaaDoor
open Go.ChangeShapes Go.WideShapes Go.ChangeAt Go.RowKit Go.Joins
open Go.ChangeMaps (open_string shut_string)

set_option maxRecDepth 100000 in
theorem fnPlateLess_lifted (os : Os) (started : os.Started) (H : Type) (enc : TypeId × Value → H) :
    ReturnsInHanded {} Tryd.checked os 3 .any (fun w args => (Rows.fnPlateLessSpec.pre enc Tryd.prog Tryd.f3 [] false w args ∧ laidMetH Tryd.prog Rows.fnPlateLessRow.laid w) ∧ sizedMet enc Tryd.prog Tryd.f3 (OpenSpec.ofChange Rows.fnPlateLessSpec) false w args)
      (Rows.fnPlateLessSpec.post enc Tryd.prog Tryd.f3 false true false false) := by
  refine returnsInHanded_of_change_and (C := Tryd.checked) (X := fun w _ => laidMetH Tryd.prog Rows.fnPlateLessRow.laid w) (fun _ _ _ hh h => h.of_heap hh) own started (by kernel_rfl) Tryd.func3
    (ChangeSpec.witness_shaped (enc := enc) (C := Tryd.checked) (os := os) (X := fun w _ => laidMetH Tryd.prog Rows.fnPlateLessRow.laid w) false (World.doorLaid Tryd.prog 28 os) #[.slice none 0 0] 8 rfl (World.shaped_of_RefB (by kernel_rfl) (by kernel_rfl)) (by kernel_rfl) (by kernel_rfl) (by kernel_rfl) (door_met os _)) ?_
  intro W base args ds gs before hval0 hW _ _ hL _
  have hval : ∀ (j : Nat) t v, Tryd.f3.params[j]? = some t → args[j]? = some v → Value.okWide Tryd.prog W .any base t v := hval0
  have hW' := hW
  obtain ⟨p, q, hA0, hV, rfl, hfz, hnd⟩ := hW
  have hA : DataW.TrodAll enc Tryd.prog W 0 (fun _ => true) true Tryd.f3.params.toList args.toList ds p := hA0
  rw [Tryd.params3] at hA hval
  obtain ⟨v0, vs0, d0, ds0, p0, q0, hargs, rfl, rfl, h0, r0⟩ := trodAll_cons hA
  obtain ⟨rfl, rfl, rfl⟩ := trodAll_nil r0
  obtain rfl : args = #[v0] := by cases args; simp_all
  obtain ⟨a, hvar, hs⟩ := sent_of_laid hL
  obtain ⟨rfl, rfl⟩ := hV.unique (vars_again enc hvar _)
  have k0 := h0
  have lt0 : ∀ x ∈ p0, x.block < W.heap.size := by obtain ⟨m, hm⟩ := k0; exact DataW.trod_lt m _ _ _ hm
  obtain ⟨a0, len0, cap0, rfl⟩ := okWide_slice Tryd.underlying22 (hval 0 22 v0 rfl rfl)
  obtain ⟨z0, w0⟩ : ∃ zs, IsRow .u8 W a0 len0 cap0 zs := by
    obtain ⟨fuel, hf⟩ := h0
    rcases open_ints Tryd.underlying22 Tryd.underlying5 (by kernel_rfl) hf with ⟨hcs, _⟩ | ⟨x, l, c, zs, hcs, _, hl, hm, hz, _, hcell, hwz⟩
    · simp [Value.cells] at hcs
      obtain ⟨rfl, rfl, rfl⟩ := hcs
      exact ⟨[], .inl ⟨rfl, rfl, rfl, rfl⟩⟩
    · simp [Value.cells] at hcs
      obtain ⟨rfl, rfl, rfl⟩ := hcs
      exact ⟨zs, .inr ⟨_, rfl, hl, hm, by simpa using hz, hcell, hwz⟩⟩
  clear hA0 hval0
  refine (plateLess_walk W a0 len0 cap0 z0 w0 a hs).mono fun e W' ⟨he, bel⟩ => ?_
  subst he
  exact ⟨_, rfl, _, _, _, [], _, [.cell 0 0], hW', trodAll_mk1 (shut_bool Tryd.underlying4 _), (trodAll_cons_mk (Below.trod laidOut (by kernel_rfl) (of_decide_eq_true (by kernel_rfl)) k0 bel lt0) trodAll_mk0), vars_again enc (var?_below bel gE hs.lt hvar) _, bel.frame _, fun h => by cases h⟩

theorem fnPlateLess_said : Rows.FnPlateLessSaid :=
  OpenClaim.holds_of_wide 3 Tryd.f3 rfl rfl rfl rfl rfl rfl rfl ⟨rfl, rfl, rfl, rfl, rfl⟩ rfl rfl rfl rfl rfl (by kernel_rfl) Tryd.func3 (by kernel_rfl)
    (of_decide_eq_true (by kernel_rfl)) (by unfold Func.isWrapper; first | (rw [if_pos (by decide +kernel)]; kernel_rfl) | (rw [if_neg (by decide +kernel)]; exact ⟨rfl, rfl⟩))
    (fun os started H enc _ => fnPlateLess_lifted os started H enc)

theorem fnPlateLess_plain (f : FuncId) (fn : Func) (hf : Tryd.pinned.checked.prog.funcNamed "loop.example/mortiser/laws.FnPlateLess" = some f) (hfn : Tryd.pinned.checked.prog.funcs[f]? = some fn) :
    true = Tryd.pinned.checked.prog.looks [] ∧ ∀ (j : Nat) t, fn.params[j]? = some t → Tryd.pinned.checked.prog.wantsStandIn t = false := by
  obtain rfl : f = 3 := Option.some.inj ((show Tryd.prog.funcNamed "loop.example/mortiser/laws.FnPlateLess" = some 3 by kernel_rfl).symm.trans hf) |>.symm
  obtain rfl : fn = Tryd.f3 := (Option.some.inj (Tryd.func3.symm.trans hfn)).symm
  refine ⟨by kernel_rfl, fun j t ht => ?_⟩
  rw [Tryd.params3] at ht
  have hm := Array.mem_of_getElem? ht
  simp only [List.mem_toArray, List.mem_cons, List.not_mem_nil, or_false] at hm
  subst hm
  exact (show Tryd.prog.wantsStandIn 22 = false by kernel_rfl)

/-- THE STATEMENT. -/
theorem fnPlateLess_card : Rows.FnPlateLessCardSaid :=
  Claim7.holds_tied_plain_at .later [] _ _ _ _ fnPlateLess_said (fun _ h => by cases h) (by kernel_rfl) (fun _ h => by cases h) fnPlateLess_row_tie rfl ⟨rfl, rfl⟩ (by kernel_rfl) rfl fnPlateLess_plain (by kernel_rfl)
end Go.Proofs.YtlikfcfblkckaaaDoor
