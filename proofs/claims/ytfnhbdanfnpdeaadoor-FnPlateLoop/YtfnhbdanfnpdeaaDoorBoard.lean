/-
  OUR OWN TEXT. A plate as a board, by contract.
-/
import Derived.Test.YtfnhbdanfnpdeaaDoorLoops
import Derived.Test.YtfnhbdanfnpdeaaDoorPlateI
namespace Go.Proofs.YtfnhbdanfnpdeaaDoor
open Go.RowKit Go.Shelf Go.Sort
attribute [local go_sem] Oper.semAt_some

theorem holesFree_any (b : Nat) (o : RingT) (hs : List RingT) (hn : hs.length ≤ 2) (w : World) (hR : RingL w.heap.size w (some ⟨b, 0, none⟩) (o :: hs)) (hok : ((o :: hs).all fun x => okV x.pts) = true) :
    Calls Tryd.prog 69 #[.pointer (some ⟨b, 0, none⟩)] w fun e W' => e = .returned (.bool (plV o.pts (hs.map RingT.pts))) ∧ Below w.heap.size w W' := by
  match hs, hn, hR, hok with
  | [], _, hR, hok =>
    have e : plV o.pts [] = true := by simpa [plV] using hok
    rw [List.map_nil, e]
    exact holesFree_0 b o w hR
  | [h], _, hR, hok =>
    simp only [List.all_cons, List.all_nil, Bool.and_true, Bool.and_eq_true] at hok
    have e : plV o.pts ([h].map RingT.pts) = arB o.pts h.pts := by simp only [List.map_cons, List.map_nil, plV, hok.1, hok.2, Bool.true_and]
    rw [e]
    exact holesFree_1 b o h w hR hok.1 hok.2
  | [h, k], _, hR, hok =>
    simp only [List.all_cons, List.all_nil, Bool.and_true, Bool.and_eq_true] at hok
    have e : plV o.pts ([h, k].map RingT.pts) = (arB o.pts h.pts && beB h.pts k.pts && arB o.pts k.pts) := by
      simp only [List.map_cons, List.map_nil, plV, hok.1, hok.2.1, hok.2.2, Bool.true_and]
      cases arB o.pts h.pts <;> cases arB o.pts k.pts <;> cases beB h.pts k.pts <;> rfl
    rw [e]
    exact holesFree_2 b o h k w hR hok.1 hok.2.1 hok.2.2
theorem plV_notall (o : RingT) (hs : List RingT) (h : ((o :: hs).all fun x => okV x.pts) = false) : plV o.pts (hs.map RingT.pts) = false := by
  rw [Bool.eq_false_iff]
  intro hv
  have L := (plV_iff _ _).1 hv
  have : ((o :: hs).all fun x => okV x.pts) = true := by
    rw [List.all_eq_true]
    intro x hx
    rcases List.mem_cons.1 hx with e | e
    · subst e; exact L.out
    · exact L.ok _ (List.mem_map.2 ⟨x, e, rfl⟩)
  rw [h] at this; cases this
set_option maxRecDepth 100000 in
set_option maxHeartbeats 4000000 in
theorem board_many (a ah : Option Addr) (la ca nh ch : Nat) (hb : 2 < nh) (w : World) :
    Calls Tryd.prog 38 #[.agg #[.slice a la ca, .slice ah nh ch]] w fun e W' => e = .returned (.tuple #[.pointer none, .bool false]) ∧ Below w.heap.size w W' := by
  have hb' : (2 : Int) < (nh : Int) := by omega
  go_enter Tryd.func38, Tryd.ntmps38
  go_wp2_with fail
  go_ret2
  exact ⟨rfl, bw_alloc (bw_refl _) _⟩
/-- What lies in the boxes of boardOf. -/
def Chained (w : World) (a : Option Addr) (la ca : Nat) (xs : List (Option Addr × Nat × Nat)) (W : World) : Prop :=
  ∃ q, Lies (w.heap.size + 1) #[.slice a la ca, .pointer q] 74 W ∧ RingB (w.heap.size + 4) W q xs
theorem chained_own (w : World) (a : Option Addr) (la ca : Nat) (N : Nat) {β : Type} (f : β → List (Option Addr × Nat × Nat)) : OwnFrom N (fun (s : β) W => Chained w a la ca (f s) W) := fun _ X Y row ⟨q, h1, h2⟩ hg hr =>
  ⟨q, lies_own (β := Unit) _ _ _ () X Y row h1 hg (fun r e => (hr r e).2), ringB_own _ _ _ X Y row h2 hg (fun r e => (hr r e).2)⟩
theorem RingB.below {base : Nat} {W W' : World} (h : Below W.heap.size W W') : ∀ {p : Option Addr} {xs : List (Option Addr × Nat × Nat)}, RingB base W p xs → RingB base W' p xs
  | _, [], hl => hl
  | _, _ :: _, ⟨b, q, hp, hb, hl, hr⟩ => ⟨b, q, hp, hb, hl.below h, RingB.below h hr⟩
theorem pts_put {n₀ : Nat} {W : World} {a : Option Addr} {len D : Nat} {l : List P2} {o : Obj} (o' : Obj) (h : Pts n₀ W a len l) (hD : W.heap[D]? = some o) (ho : o.isCells = false) : Pts n₀ (W.putObj D o') a len l := by
  refine ⟨h.1, h.2.imp id ?_⟩
  rintro ⟨b, off, rfl, hb, hc⟩
  refine ⟨b, off, rfl, hb, fun j hj => ?_⟩
  have key : ∀ i v, W.cell? ⟨b, i, none⟩ = some v → (W.putObj D o').cell? ⟨b, i, none⟩ = some v := fun i v hv =>
    cell_kept hv (grownBy_putObj' W D o') (fun r e => by cases e; exact ⟨_, hD, ho⟩)
  exact ⟨key _ _ (hc j hj).1, key _ _ (hc j hj).2⟩
theorem ringL_put {n₀ : Nat} {W : World} (D : Nat) {o : Obj} (o' : Obj) : ∀ {p : Option Addr} {xs : List RingT}, RingL n₀ W p xs → W.heap[D]? = some o → o.isCells = false → RingL n₀ (W.putObj D o') p xs
  | _, [], hl, _, _ => hl
  | _, _ :: _, ⟨b, q, t, hp, hb, hl, hP, hr⟩, hD, ho => ⟨b, q, t, hp, hb.put o' hD ho, hl, pts_put o' hP hD ho, ringL_put D o' hr hD ho⟩
theorem setCell_2 {W : World} {b : Nat} {x y : Value} {t : TypeId} (h : Lies b #[x, y] t W) (v : Value) : Lies b #[x, v] t (W.setCell ⟨b, 1, none⟩ v) := by
  obtain ⟨hlt, hk⟩ := Array.getElem?_eq_some_iff.1 h
  show (W.heap.modify b _)[b]? = _
  rw [Array.getElem?_eq_getElem (by rw [Array.size_modify]; exact hlt), Array.getElem_modify_self, hk]
  rfl
set_option maxRecDepth 100000 in
set_option maxHeartbeats 4000000 in
theorem board_in (n : Nat) (hn : 20 ≤ n) (a ah : Option Addr) (la ca nh ch : Nat) (hb : nh ≤ 2) (A : Nat → Option Addr) (L C : Nat → Nat) (pts : List P2) (H : Nat → List P2) (hla : la ≤ 1048576) (hLL : ∀ j, j < nh → L j ≤ 1048576) (n₀ : Nat) (w : World) (hn₀ : n₀ ≤ w.heap.size)
    (hP : Pts n₀ w a la pts) (hS : SlcRow w.heap.size w ah nh A L C) (hH : ∀ j, j < nh → Pts n₀ w (A j) (L j) (H j)) (res : Value)
    (hres : Hid (res = .tuple #[.pointer (if plV pts ((List.range nh).map H) then some ⟨w.heap.size + 1, 0, none⟩ else none), .bool (plV pts ((List.range nh).map H))])) :
    CallsIn Fence.wide n Tryd.prog 38 #[.agg #[.slice a la ca, .slice ah nh ch]] w fun e W' =>
      e = .returned res ∧ Below w.heap.size w W' ∧
        RingL n₀ W' (some ⟨w.heap.size + 1, 0, none⟩) (⟨a, la, ca, pts⟩ :: (List.range nh).map fun j => ⟨A j, L j, C j, H j⟩) := by
  have h1 : 1 ≤ n := by omega
  have hb' : ¬ (2 < (nh : Int)) := by omega
  have hmx : Tryd.prog.follows .mixedOrders = true := by kernel_rfl
  refine callsIn_of_wp_marks Tryd.func38 rfl trivial ?_ rfl
  simp only [Tryd.ntmps38, List.size_toArray, List.length_cons, List.length_nil, Nat.reduceAdd, Nat.reduceSub, Array.replicate_succ, Array.replicate_zero, List.push_toArray, List.append_toArray, List.nil_append, List.cons_append]
  gi_wp2_with (refine ⟨trivial, ?_⟩; gi_at_call 67; refine (back_in (n - 1) _ _ _ _).mono ?_; rintro e w' ⟨rfl, rfl⟩)
  have L0 := (((Lies.new' w (w.heap.size) (by simp) #[.slice a la ca, .slice ah nh ch] 40).alloc (.cells #[.slice a la ca, .pointer none] 74)).alloc (.cells #[.pointer (some ⟨w.heap.size + 1, 0, none⟩)] 64)).alloc (.cells #[.slice ah nh ch] 38)
  have L1 := ((Lies.new' (w.alloc (.cells #[.slice a la ca, .slice ah nh ch] 40)) (w.heap.size + 1) (by simp) #[.slice a la ca, .pointer none] 74).alloc (.cells #[.pointer (some ⟨w.heap.size + 1, 0, none⟩)] 64)).alloc (.cells #[.slice ah nh ch] 38)
  have L2 := (Lies.new' ((w.alloc (.cells #[.slice a la ca, .slice ah nh ch] 40)).alloc (.cells #[.slice a la ca, .pointer none] 74)) (w.heap.size + 1 + 1) (by simp) #[.pointer (some ⟨w.heap.size + 1, 0, none⟩)] 64).alloc (.cells #[.slice ah nh ch] 38)
  have L3 := Lies.new' (((w.alloc (.cells #[.slice a la ca, .slice ah nh ch] 40)).alloc (.cells #[.slice a la ca, .pointer none] 74)).alloc (.cells #[.pointer (some ⟨w.heap.size + 1, 0, none⟩)] 64)) (w.heap.size + 1 + 1 + 1) (by simp) #[.slice ah nh ch] 38
  have hB0 : Below w.heap.size w ((((w.alloc (.cells #[.slice a la ca, .slice ah nh ch] 40)).alloc (.cells #[.slice a la ca, .pointer none] 74)).alloc (.cells #[.pointer (some ⟨w.heap.size + 1, 0, none⟩)] 64)).alloc (.cells #[.slice ah nh ch] 38)) := (by repeat (first | exact bw_refl _ | assumption | apply bw_drewN | apply bw_drew | apply bw_alloc | refine bw_set ?_ (by simp) _))
  have hsz : (((((w.alloc (.cells #[.slice a la ca, .slice ah nh ch] 40)).alloc (.cells #[.slice a la ca, .pointer none] 74)).alloc (.cells #[.pointer (some ⟨w.heap.size + 1, 0, none⟩)] 64)).alloc (.cells #[.slice ah nh ch] 38))).heap.size = w.heap.size + 4 := by simp
  obtain ⟨W0, hW0⟩ : ∃ W0, ((((w.alloc (.cells #[.slice a la ca, .slice ah nh ch] 40)).alloc (.cells #[.slice a la ca, .pointer none] 74)).alloc (.cells #[.pointer (some ⟨w.heap.size + 1, 0, none⟩)] 64)).alloc (.cells #[.slice ah nh ch] 38)) = W0 := ⟨_, rfl⟩
  rw [hW0] at L0 L1 L2 L3 hB0 hsz ⊢
  clear hW0
  have hst := back_stops (n - 1) (by omega) (w.heap.size + 1 + 1 + 1) w.heap.size ah nh ch A L C W0 (by omega) (by omega) (by omega) L3.c1 (hS.below hB0)
  refine wpIn_rangeFunc_ownH rfl h1 (gf := 91) (lb := #[.pointer (some ⟨w.heap.size + 1 + 1 + 1, 0, none⟩)]) rfl trivial (enters_of Tryd.func91 (by kernel_rfl) rfl)
    hst KB_t (KB_b (by omega) (by omega)) (Below.refl _ _) (fun _ => rfl)
    (fun pre W => ((Chained w a la ca (pre.reverse.map fun x => (A x.1, L x.1, C x.1)) W) ∧ Lies (w.heap.size + 1 + 1) #[.pointer (some ⟨w.heap.size + 1, 0, none⟩)] 64 W ∧ Lies (w.heap.size + 1 + 1 + 1) #[.slice ah nh ch] 38 W) ∧ Below w.heap.size w W)
    (fun _ _ _ => False)
    (OwnFrom.and (OwnFrom.and (chained_own _ _ _ _ _ _) (OwnFrom.and (lies_from _ _ _ _) (lies_from _ _ _ _))) (ownFrom_below (Nat.le_refl _) (by omega)))
    (fun c => ownFrom_pure _ _)
    ⟨⟨⟨none, L1, rfl⟩, L2, L3⟩, hB0⟩
    (fun x a' W => a' = { tmps := #[.agg #[.slice a la ca, .slice ah nh ch], .pointer (some ⟨w.heap.size, 0, none⟩), .pointer none, .bool false, .pointer (some ⟨w.heap.size + 1 + 1, 0, none⟩), undef, .slice (A x.1) (L x.1) (C x.1), .pointer (some ⟨w.heap.size, 1, none⟩), .slice ah nh ch, .int .i64 (nh : Int), .bool false, .pointer (some ⟨w.heap.size, 0, none⟩), .slice a la ca, .agg #[.slice a la ca, .pointer none], .agg #[.slice a la ca, .pointer none], .pointer (some ⟨w.heap.size + 1, 0, none⟩), .pointer (some ⟨w.heap.size, 1, none⟩), .slice ah nh ch, .func (.func 91) #[] #[.pointer (some ⟨w.heap.size + 1 + 1 + 1, 0, none⟩)], .int .i64 (x.1 : Int), .slice (A x.1) (L x.1) (C x.1), undef, undef, undef, undef, undef, undef, undef, undef, undef, undef, undef, undef, undef, undef, undef, undef, undef, undef, undef, undef, undef], defers := [] })
    (fun _ _ _ _ _ _ hs _ _ => hs)
    ?assign ?body ?done ?stop
  case assign =>
    rintro l pre x W K ⟨⟨hc, M2, M3⟩, hB1⟩ hK
    unfold encB
    gi_wp2
    exact hK _ _ (KeepsFrom.refl _ _) (KB.refl _ _ W) ⟨⟨hc, M2, M3⟩, hB1⟩ rfl
  case body =>
    rintro l pre x a' W hl ⟨r, hr⟩ ⟨⟨⟨q, M1, hq⟩, M2, M3⟩, hB1⟩ rfl hlt
    have cB := M2.c1
    obtain ⟨d0, d1, g0, g1⟩ := lies2 M1
    have h1' : 1 ≤ n - 1 - 1 := by omega
    have zW : w.heap.size + 1 + 1 + 1 < W.heap.size := M3.lt
    gi_wp2
    refine wpIn_round_held (S := (fun w' : World => w'.cell? ⟨w.heap.size + 1 + 1, 0, none⟩ = some (.pointer (some ⟨w.heap.size + 1, 0, none⟩)))) hmx (by kernel_rfl) (by rintro ⟨_, _, h⟩; exact h) ?_
    have hS1 : (fun w' : World => w'.cell? ⟨w.heap.size + 1 + 1, 0, none⟩ = some (.pointer (some ⟨w.heap.size + 1, 0, none⟩))) W.drew := cB
    refine wpAnyH_take (i := 0) (v := .pointer (some ⟨w.heap.size + 1, 0, none⟩)) rfl (by kernel_rfl) (by kernel_rfl) (by kernel_rfl) (fun _ _ _ h => h) (Or.inl ⟨by rfl, by intro w' s1; go_simp⟩) hS1 ?_
    refine wpAnyH_take (i := 1) (v := .slice (A x.1) (L x.1) (C x.1)) rfl (by kernel_rfl) (by kernel_rfl) (by kernel_rfl) (fun _ _ _ h => h) (Or.inl ⟨by rfl, by intro w' s1; go_simp⟩) hS1 ?_
    refine wpAnyH_take (i := 2) (v := .pointer (some ⟨w.heap.size + 1, 0, none⟩)) rfl (by kernel_rfl) (by kernel_rfl) (by kernel_rfl) (fun _ _ _ h => h) (Or.inl ⟨by rfl, by intro w' s1; go_simp⟩) hS1 ?_
    refine wpAnyH_take (i := 3) (v := .pointer (some ⟨w.heap.size + 1, 0, none⟩)) rfl (by kernel_rfl) (by kernel_rfl) (by kernel_rfl) (fun _ _ _ h => h) (Or.inl ⟨by rfl, by intro w' s1; go_simp⟩) hS1 ?_
    refine wpAnyH_take (i := 4) (v := .pointer (some ⟨w.heap.size + 1, 0, none⟩)) rfl (by kernel_rfl) (by kernel_rfl) (by kernel_rfl) (fun _ _ _ h => h) (Or.inl ⟨by rfl, by intro w' s1; go_simp⟩) hS1 ?_
    refine wpAnyH_take (i := 5) (v := .pointer (some ⟨w.heap.size + 1, 1, none⟩)) rfl (by kernel_rfl) (by kernel_rfl) (by kernel_rfl) (fun _ _ _ h => h) (Or.inl ⟨by rfl, by intro w' s1; go_simp⟩) hS1 ?_
    refine wpAnyH_all (rs := [6]) (by kernel_rfl) (by simp) ?_
    intro i hi
    obtain rfl : i = 6 := by simpa using hi
    refine YieldsIf.wpOp (S := fun w' => w' = W.drew) (v := .pointer q) rfl (Or.inl ⟨by rfl, by rintro w' rfl; go_simp⟩) rfl ⟨hS1, ?_⟩
    refine wpAnyH_take (i := 7) (v := .agg #[.slice (A x.1) (L x.1) (C x.1), .pointer q]) rfl (by kernel_rfl) (by kernel_rfl) (by kernel_rfl) (fun _ _ _ h => h) (Or.inl ⟨by rfl, by intro w' s1; go_simp⟩) hS1 ?_
    refine wpAnyH_all (rs := [8]) (by kernel_rfl) (by simp) ?_
    intro i hi
    obtain rfl : i = 8 := by simpa using hi
    refine wpOp_now rfl (by rfl) ?_
    go_simp
    refine ⟨(M2.alloc _).c1, ?_⟩
    have A1 := (M1.alloc (.cells #[.slice (A x.1) (L x.1) (C x.1), .pointer q] 72)).drew
    have A2 := (M2.alloc (.cells #[.slice (A x.1) (L x.1) (C x.1), .pointer q] 72)).drew
    have A3 := (M3.alloc (.cells #[.slice (A x.1) (L x.1) (C x.1), .pointer q] 72)).drew
    have AB : Below W.heap.size W ((W.alloc (.cells #[.slice (A x.1) (L x.1) (C x.1), .pointer q] 72)).drew) := (bw_alloc (bw_refl W) _).drew
    have AN : Lies W.heap.size #[.slice (A x.1) (L x.1) (C x.1), .pointer q] 72 ((W.alloc (.cells #[.slice (A x.1) (L x.1) (C x.1), .pointer q] 72)).drew) := (Lies.new W _ _).drew
    have AO : KeepsOthers W ((W.alloc (.cells #[.slice (A x.1) (L x.1) (C x.1), .pointer q] 72)).drew) := (KeepsOthers.alloc _ _).trans (KeepsOthers.drew _)
    have AK : KB w.heap.size (w.heap.size + 1 + 1 + 1) W ((W.alloc (.cells #[.slice (A x.1) (L x.1) (C x.1), .pointer q] 72)).drew) := ((KB.refl _ _ _).alloc hB1.size M3.lt _).drew
    generalize (W.alloc (.cells #[.slice (A x.1) (L x.1) (C x.1), .pointer q] 72)).drew = W2 at A1 A2 A3 AB AN AO AK ⊢
    obtain ⟨e0, e1, g0', g1'⟩ := lies2 A1
    have hS2 : (fun w' : World => w'.cell? ⟨w.heap.size + 1 + 1, 0, none⟩ = some (.pointer (some ⟨w.heap.size + 1, 0, none⟩))) W2 := A2.c1
    refine wpAnyH_take (i := 9) (v := .pointer (some ⟨w.heap.size + 1, 0, none⟩)) rfl (by kernel_rfl) (by kernel_rfl) (by kernel_rfl) (fun _ _ _ h => h) (Or.inl ⟨by rfl, by intro w' s1; go_simp⟩) hS2 ?_
    refine wpAnyH_take (i := 10) (v := .pointer (some ⟨w.heap.size + 1, 0, none⟩)) rfl (by kernel_rfl) (by kernel_rfl) (by kernel_rfl) (fun _ _ _ h => h) (Or.inl ⟨by rfl, by intro w' s1; go_simp⟩) hS2 ?_
    refine wpAnyH_take (i := 11) (v := .pointer (some ⟨w.heap.size + 1, 1, none⟩)) rfl (by kernel_rfl) (by kernel_rfl) (by kernel_rfl) (fun _ _ _ h => h) (Or.inl ⟨by rfl, by intro w' s1; go_simp⟩) hS2 ?_
    refine wpAnyH_all (rs := [12]) (by kernel_rfl) (by simp) ?_
    intro i hi
    obtain rfl : i = 12 := by simpa using hi
    refine wpOp_now rfl (by rfl) ?_
    go_simp
    refine wpAnyH_done (by kernel_rfl) ?_ _
    have hq2 : RingB (w.heap.size + 4) W2 (some ⟨W.heap.size, 0, none⟩) ((A x.1, L x.1, C x.1) :: pre.reverse.map fun x => (A x.1, L x.1, C x.1)) :=
      ⟨W.heap.size, q, rfl, by omega, AN, hq.below AB⟩
    exact ⟨(AO.trans (KeepsOthers.setCell _ _ _)).from _, AK.setCell (by simp) (by simp; omega) _,
      ⟨⟨some ⟨W.heap.size, 0, none⟩, setCell_2 A1 _, by rw [List.reverse_append]; exact hq2.other 1 _ (by omega)⟩, A2.other' (by omega) _, A3.other' (by omega) _⟩, bw_set (bw_trans hB1 AB) (by simp) _⟩
  case done =>
    rintro D zs W hD rfl ⟨⟨⟨q, M1, hq⟩, M2, M3⟩, hB1⟩ hK
    rw [List.reverse_reverse] at hq
    have cB := M2.c1
    have hR0 : RingL n₀ W (some ⟨w.heap.size + 1, 0, none⟩) (⟨a, la, ca, pts⟩ :: (List.range nh).map fun j => ⟨A j, L j, C j, H j⟩) := by
      refine ⟨_, q, _, rfl, M1, hla, hP.below (hB1.mono hn₀), ?_⟩
      refine RingB.rings (base := w.heap.size + 4) ?_ ?_
      · rw [List.map_map]
        have e : ((List.finRange nh).map fun x => (A x.1, L x.1, C x.1)) = (List.range nh).map ((fun x : RingT => (x.a, x.len, x.cap)) ∘ fun j => (⟨A j, L j, C j, H j⟩ : RingT)) := by
          have := fin_map' nh (fun j => (A j, L j, C j))
          rw [this]; rfl
        rw [← e]; exact hq
      · intro x hx
        obtain ⟨j, hj, rfl⟩ := List.mem_map.1 hx
        have hj' := List.mem_range.1 hj
        exact ⟨hLL j hj', (hH j hj').below (hB1.mono hn₀)⟩
    have zhB := hB1.size
    have hR := hR0.grow (show n₀ ≤ W.heap.size by omega)
    have hcA := allLoops_any _ _ W hR
    have hpts : ((List.range nh).map fun j => (⟨A j, L j, C j, H j⟩ : RingT)).map RingT.pts = (List.range nh).map H := by rw [List.map_map]; rfl
    cases hall : ((⟨a, la, ca, pts⟩ :: (List.range nh).map fun j => (⟨A j, L j, C j, H j⟩ : RingT)).all fun x => okV x.pts)
    · rw [hall] at hcA
      have hv : plV pts ((List.range nh).map H) = false := by have := plV_notall _ _ hall; rwa [hpts] at this
      gi_wp2_with (refine ⟨trivial, ?_⟩; gi_at_call 68; refine (callsIn_wide.2 hcA).mono ?_; rintro e v ⟨rfl, J⟩)
      refine ⟨trivial, ?_⟩
      gi_wp2
      have hK' : v.heap[D]? = some (.deferred (some [])) := keep J hK
      refine ⟨by simp, .inl ⟨_, _, rfl, run_takeDeferred hK', ?_⟩⟩
      have BD := belowK_b (w := w) (Nat.le_refl _) v D _ (.deferred none) (by omega) hK' rfl rfl
      refine ⟨.tuple #[.pointer none, .bool false], ?_, ?_, (bw_trans hB1 J).trans BD, ?_⟩
      · simp [results, Tryd.f38, go_sem]
      · rw [hres.out, hv]; rfl
      · exact ringL_put D _ (hR0.below J (by omega)) hK' rfl
    · rw [hall] at hcA
      have hcF : Hid (∀ v, Below W.heap.size W v → Calls Tryd.prog 69 #[.pointer (some ⟨w.heap.size + 1, 0, none⟩)] v fun e W' => e = .returned (.bool (plV pts ((List.range nh).map H))) ∧ Below v.heap.size v W') := fun v J => by
        have := holesFree_any _ _ _ (by simpa using hb) v ((hR.below J (Nat.le_refl _)).grow J.size) hall
        rwa [hpts] at this
      cases hv : plV pts ((List.range nh).map H)
      · rw [hv] at hcF
        gi_wp2_with (first | (refine ⟨trivial, ?_⟩; gi_at_call 68; refine (callsIn_wide.2 hcA).mono ?_; rintro e v1 ⟨rfl, J1⟩; have cB1 := (M2.below J1).c1) | (refine ⟨trivial, ?_⟩; gi_at_call 69; refine (callsIn_wide.2 (hcF.out _ J1)).mono ?_; rintro e v ⟨rfl, J2⟩; have J := bw_trans J1 J2))
        have hK' : v.heap[D]? = some (.deferred (some [])) := keep J hK
        refine ⟨by simp, .inl ⟨_, _, rfl, run_takeDeferred hK', ?_⟩⟩
        have BD := belowK_b (w := w) (Nat.le_refl _) v D _ (.deferred none) (by omega) hK' rfl rfl
        refine ⟨.tuple #[.pointer none, .bool false], ?_, ?_, (bw_trans hB1 J).trans BD, ?_⟩
        · simp [results, Tryd.f38, go_sem]
        · rw [hres.out, hv]; rfl
        · exact ringL_put D _ (hR0.below J (by omega)) hK' rfl
      · rw [hv] at hcF
        gi_wp2_with (first | (refine ⟨trivial, ?_⟩; gi_at_call 68; refine (callsIn_wide.2 hcA).mono ?_; rintro e v1 ⟨rfl, J1⟩; have cB1 := (M2.below J1).c1) | (refine ⟨trivial, ?_⟩; gi_at_call 69; refine (callsIn_wide.2 (hcF.out _ J1)).mono ?_; rintro e v ⟨rfl, J2⟩; have J := bw_trans J1 J2; have cB2 := (M2.below J).c1))
        have hK' : v.heap[D]? = some (.deferred (some [])) := keep J hK
        refine ⟨by simp, .inl ⟨_, _, rfl, run_takeDeferred hK', ?_⟩⟩
        have BD := belowK_b (w := w) (Nat.le_refl _) v D _ (.deferred none) (by omega) hK' rfl rfl
        refine ⟨.tuple #[.pointer (some ⟨w.heap.size + 1, 0, none⟩), .bool true], ?_, ?_, (bw_trans hB1 J).trans BD, ?_⟩
        · simp [results, Tryd.f38, go_sem]
        · rw [hres.out, hv]; rfl
        · exact ringL_put D _ (hR0.below J (by omega)) hK' rfl
  case stop =>
    rintro D c pre W hD hpre h hK
    exact h.elim
/-- A plate, where it lies. -/
def Plt (W : World) (a : Option Addr) (la : Nat) (ah : Option Addr) (nh : Nat) (o : List P2) (hs : List (List P2)) : Prop :=
  la ≤ 1048576 ∧ Pts W.heap.size W a la o ∧ hs.length = nh ∧ ∃ (A : Nat → Option Addr) (L C : Nat → Nat), SlcRow W.heap.size W ah nh A L C ∧ ∀ j, j < nh → L j ≤ 1048576 ∧ Pts W.heap.size W (A j) (L j) (hs[j]?.getD [])
theorem Plt.below {W W' : World} {a ah : Option Addr} {la nh : Nat} {o : List P2} {hs : List (List P2)} (h : Plt W a la ah nh o hs) (J : Below W.heap.size W W') : Plt W' a la ah nh o hs := by
  obtain ⟨h1, h2, h3, A, L, C, h4, h5⟩ := h
  exact ⟨h1, (h2.below J).grow J.size, h3, A, L, C, (h4.below J).grow J.size, fun j hj => ⟨(h5 j hj).1, ((h5 j hj).2.below J).grow J.size⟩⟩
theorem range_get {α : Type} (hs : List α) (d : α) : ((List.range hs.length).map fun j => hs[j]?.getD d) = hs := by
  apply List.ext_getElem
  · simp
  · intro i h1 h2
    have h3 : i < hs.length := h2
    simp [h3]
/-- A plate whose points lie below n₀. -/
def PltB (n₀ : Nat) (W : World) (a : Option Addr) (la : Nat) (ah : Option Addr) (nh : Nat) (o : List P2) (hs : List (List P2)) : Prop :=
  la ≤ 1048576 ∧ Pts n₀ W a la o ∧ hs.length = nh ∧ ∃ (A : Nat → Option Addr) (L C : Nat → Nat), SlcRow W.heap.size W ah nh A L C ∧ ∀ j, j < nh → L j ≤ 1048576 ∧ Pts n₀ W (A j) (L j) (hs[j]?.getD [])
theorem Plt.base {W W' : World} {a ah : Option Addr} {la nh : Nat} {o : List P2} {hs : List (List P2)} (h : Plt W a la ah nh o hs) (J : Below W.heap.size W W') : PltB W.heap.size W' a la ah nh o hs := by
  obtain ⟨h1, h2, h3, A, L, C, h4, h5⟩ := h
  exact ⟨h1, h2.below J, h3, A, L, C, (h4.below J).grow J.size, fun j hj => ⟨(h5 j hj).1, (h5 j hj).2.below J⟩⟩
/-- boardOf, at every plate; the points of its loops lie where they lay. -/
theorem board_any0 (a ah : Option Addr) (la ca nh ch : Nat) (o : List P2) (hs : List (List P2)) (n₀ : Nat) (w : World) (hn₀ : n₀ ≤ w.heap.size) (h : PltB n₀ w a la ah nh o hs) :
    Calls Tryd.prog 38 #[.agg #[.slice a la ca, .slice ah nh ch]] w fun e W' => ∃ p : Option Addr, e = .returned (.tuple #[.pointer p, .bool (plV o hs)]) ∧ Below w.heap.size w W' ∧
      (plV o hs = true → ∃ b xs, p = some ⟨b, 0, none⟩ ∧ RingL n₀ W' (some ⟨b, 0, none⟩) (⟨a, la, ca, o⟩ :: xs) ∧ xs.map RingT.pts = hs) := by
  obtain ⟨h1, h2, rfl, A, L, C, h4, h5⟩ := h
  by_cases hb : 2 < hs.length
  · have hv : plV o hs = false := by
      rw [Bool.eq_false_iff]; intro hc
      have := plV_len hc; omega
    refine (board_many a ah la ca hs.length ch hb w).mono ?_
    rintro e W' ⟨rfl, J⟩
    exact ⟨none, by rw [hv], J, fun h => by rw [hv] at h; cases h⟩
  · refine (callsIn_wide.1 (board_in 20 (Nat.le_refl _) a ah la ca hs.length ch (by omega) A L C o (fun j => hs[j]?.getD []) h1 (fun j hj => (h5 j hj).1) n₀ w hn₀ h2 h4 (fun j hj => (h5 j hj).2) _ rfl)).mono ?_
    rintro e W' ⟨rfl, J, hR⟩
    rw [range_get]
    refine ⟨_, rfl, J, fun hv => ⟨w.heap.size + 1, _, by rw [if_pos hv], hR, ?_⟩⟩
    rw [List.map_map]
    exact range_get hs []
/-- boardOf, at every plate. -/
theorem board_any (a ah : Option Addr) (la ca nh ch : Nat) (o : List P2) (hs : List (List P2)) (w : World) (h : Plt w a la ah nh o hs) :
    Calls Tryd.prog 38 #[.agg #[.slice a la ca, .slice ah nh ch]] w fun e W' => ∃ p : Option Addr, e = .returned (.tuple #[.pointer p, .bool (plV o hs)]) ∧ Below w.heap.size w W' ∧
      (plV o hs = true → ∃ b xs, p = some ⟨b, 0, none⟩ ∧ RingL W'.heap.size W' (some ⟨b, 0, none⟩) (⟨a, la, ca, o⟩ :: xs) ∧ xs.map RingT.pts = hs) := by
  refine (board_any0 a ah la ca nh ch o hs w.heap.size w (Nat.le_refl _) (h.base (bw_refl _))).mono ?_
  rintro e W' ⟨p, rfl, J, hR⟩
  exact ⟨p, rfl, J, fun hv => by
    obtain ⟨b, xs, e1, e2, e3⟩ := hR hv
    exact ⟨b, xs, e1, e2.grow J.size, e3⟩⟩
end Go.Proofs.YtfnhbdanfnpdeaaDoor
