/-
  OUR OWN TEXT. The program's reading of a loop, by contract; conditions: the library's variables lie as its initialisers lay them.
-/
import Derived.Test.YthjnfjnnpabenaaGreatDoorPtRead2
import Derived.Test.YthjnfjnnpabenaaGreatDoorSLoopRead
import Derived.Test.YthjnfjnnpabenaaGreatDoorOk
namespace Go.Proofs.YthjnfjnnpabenaaGreatDoor
open Go.RowKit Go.Sort

theorem wordsP_append (a b : List (List UInt8)) : wordsP (a ++ b) = match wordsP a with
    | none => none
    | some l => (wordsP b).map (l ++ ·) := by
  induction a with
  | nil => show wordsP b = (wordsP b).map ([] ++ ·); cases wordsP b <;> rfl
  | cons x a ih =>
    simp only [List.cons_append, wordsP]
    rw [ih]
    cases wordP x with
    | none => rfl
    | some p =>
      cases wordsP a with
      | none => rfl
      | some l => cases wordsP b <;> rfl
theorem wordsP_at {xs : List (List UInt8)} {k : Nat} {x : List UInt8} (h : xs[k]? = some x) (hx : wordP x = none) : wordsP xs = none := by
  have e : xs = xs.take k ++ x :: xs.drop (k + 1) := by
    obtain ⟨hk, hk'⟩ := List.getElem?_eq_some_iff.1 h
    rw [← hk', ← List.drop_eq_getElem_cons hk, List.take_append_drop]
  rw [e, wordsP_append]
  have e2 : wordsP (x :: xs.drop (k + 1)) = none := by simp only [wordsP, hx]
  rw [e2]
  cases wordsP (xs.take k) <;> rfl
theorem cutL_small (c : UInt8) (l : List UInt8) : (cutL c l).length ≤ l.length + 1 ∧ ∀ x ∈ cutL c l, x.length ≤ l.length := by
  induction l with
  | nil => exact ⟨Nat.le_refl _, fun x hx => by simp [cutL] at hx; subst hx; exact Nat.le_refl _⟩
  | cons b r ih =>
    unfold cutL
    split
    · refine ⟨by simp only [List.length_cons]; omega, fun x hx => ?_⟩
      rcases List.mem_cons.1 hx with rfl | hx
      · exact Nat.zero_le _
      · have := ih.2 x hx; simp only [List.length_cons]; omega
    · cases h : cutL c r with
      | nil => exact absurd h (cutL_ne c r)
      | cons y ys =>
        rw [h] at ih
        refine ⟨by simp only [List.length_cons] at *; omega, fun x hx => ?_⟩
        rcases List.mem_cons.1 hx with rfl | hx
        · have := ih.2 y List.mem_cons_self; simp only [List.length_cons]; omega
        · have := ih.2 x (List.mem_cons_of_mem _ hx); simp only [List.length_cons]; omega
theorem cutL_count (c : UInt8) (l : List UInt8) : (cutL c l).length = Lib.count l [c] + 1 := by
  induction l with
  | nil =>
    have h : Lib.index [] [c] = -1 := by simp [Lib.index]
    rw [Lib.count_miss h]; rfl
  | cons b r ih =>
    by_cases hb : b = c
    · subst hb
      have hc : Lib.count (b :: r) [b] = 1 + Lib.count r [b] := by
        have := Lib.count_hit (s := b :: r) (sub := [b]) (i := 0) (by simp) (index_one_hit b r)
        simpa using this
      rw [hc, cutL, if_pos rfl, List.length_cons, ih]
      omega
    · have hge := Lib.index_ge r [c]
      have e : Lib.count (b :: r) [c] = Lib.count r [c] := by
        by_cases hm : Lib.index r [c] = -1
        · have h : Lib.index (b :: r) [c] = -1 := by rw [index_one_miss hb, hm]; rfl
          rw [Lib.count_miss hm, Lib.count_miss h]
        · obtain ⟨i, hi⟩ : ∃ i : Nat, Lib.index r [c] = i := ⟨(Lib.index r [c]).toNat, by omega⟩
          have h : Lib.index (b :: r) [c] = ((i + 1 : Nat) : Int) := by rw [index_one_miss hb, hi, if_neg (by simp)]; simp
          have hc : Lib.count (b :: r) [c] = 1 + Lib.count (r.drop (i + 1)) [c] := by
            have := Lib.count_hit (s := b :: r) (sub := [c]) (i := i + 1) (by simp) h
            simpa using this
          have hr : Lib.count r [c] = 1 + Lib.count (r.drop (i + 1)) [c] := by
            have := Lib.count_hit (s := r) (sub := [c]) (i := i) (by simp) hi
            simpa using this
          rw [hc, hr]
      rw [e, ← ih, cutL, if_neg hb]
      cases h : cutL c r with
      | nil => exact absurd h (cutL_ne c r)
      | cons y ys => rfl
theorem own_base {W : World} {b b' n : Nat} {e : TypeId} {sz : Nat} {v : Value} {xs : List Value} (h : W.ownsRow b e sz v n xs) (hb : b' ≤ b) : W.ownsRow b' e sz v n xs := by
  refine ⟨h.1, ?_⟩
  rcases h.2 with h | ⟨g, cap, cur, e1, hg, r⟩
  · exact .inl h
  · exact .inr ⟨g, cap, cur, e1, Nat.le_trans hb hg, r⟩
set_option maxRecDepth 100000 in
set_option maxHeartbeats 4000000 in
theorem loopRead_any (s : ByteArray) (hs : s.size ≤ 1048576) (w : World) (hL : Lib4 w) :
    Calls Tryz.prog 45 #[.string s] w fun e w' => ∃ (v : Value) (l : List P2), e = .returned (.tuple #[v, .bool (readL s).isSome]) ∧ l = (readL s).getD [] ∧ w'.ownsRow w.heap.size 73 2 v l.length (ptCells l) ∧ Below w.heap.size w w' := by
  have OWN0 : ∀ W : World, W.ownsRow w.heap.size 73 2 (.slice none 0 0) ([] : List P2).length (ptCells []) := fun W => ⟨rfl, .inl ⟨rfl, rfl⟩⟩
  obtain ⟨i0, hi0, hz0, hz1, hz2⟩ := info_parts Tryz.infoPt
  by_cases h40 : s.size ≤ 40
  case neg =>
    have e1 : Hid (readL s = none) := readL_long h40
    have h40' : ((40 : Int) < (s.size : Int)) := by omega
    go_enter Tryz.func45, Tryz.ntmps45
    go_wp2_with fail
    go_ret2
    exact ⟨_, [], by rw [e1.out]; rfl, by rw [e1.out]; rfl, OWN0 _, bw_refl _⟩
  case pos =>
    have h40' : ¬ ((40 : Int) < (s.size : Int)) := by omega
    obtain ⟨mx, hmx⟩ := hL.most
    have hS := shelf_strings_Split s ⟨#[32]⟩ mx w (by omega) hmx (by decide)
    obtain ⟨n, hn⟩ : ∃ n, n = Lib.countB s ⟨#[32]⟩ := ⟨_, rfl⟩
    obtain ⟨ws, hws⟩ : ∃ ws, ws = Lib.splitB ⟨#[32]⟩ 0 (Lib.countB s ⟨#[32]⟩) s := ⟨_, rfl⟩
    have hmap : ws.map (·.data.toList) = cutL 32 s.data.toList := by
      rw [hws, Lib.splitB_data, ← splitK_cut]
    have hwl : ws.length = n + 1 := by
      have h1 := congrArg List.length hmap
      rw [List.length_map, cutL_count] at h1
      rw [h1, hn]
    have HWL : Hid (ws.length = n + 1) := hwl
    rw [← hws, ← hn] at hS
    have hsm := cutL_small 32 s.data.toList
    have esz : s.data.toList.length = s.size := Array.length_toList
    have hnl : n + 1 ≤ 41 := by
      have h1 := congrArg List.length hmap
      rw [List.length_map] at h1
      omega
    have hat : ∀ k, k < n + 1 → ∃ x : ByteArray, ws[k]? = some x ∧ (cutL 32 s.data.toList)[k]? = some x.data.toList ∧ x.size ≤ 1000000 := by
      intro k hk
      obtain ⟨x, hx⟩ : ∃ x, ws[k]? = some x := ⟨ws[k]'(by omega), List.getElem?_eq_getElem _⟩
      have h2 : (cutL 32 s.data.toList)[k]? = some x.data.toList := by rw [← hmap, List.getElem?_map, hx]; rfl
      refine ⟨x, hx, h2, ?_⟩
      have h3 := hsm.2 _ (List.mem_of_getElem? h2)
      have h4 : x.data.toList.length = x.size := Array.length_toList
      omega
    clear hn hws hsm esz hwl
    obtain ⟨W1, hW1, BW1, T1⟩ : ∃ W1, W1 = w.alloc (.cells (ws.map Value.string).toArray 9) ∧ Below w.heap.size w W1 ∧ W1.heap[w.heap.size]? = some (.cells (ws.map Value.string).toArray 9 (0, 0)) := ⟨_, rfl, (by repeat (first | exact bw_refl _ | assumption | apply bw_drewN | apply bw_drew | apply bw_alloc | refine bw_set ?_ (by simp) _)), heap_new _ _⟩
    have zT1 := blk_lt T1
    have hL1 := hL.below BW1
    rw [← hW1] at hS
    have HM : Hid (ws.map (·.data.toList) = cutL 32 s.data.toList) := hmap
    have HAT : Hid _ := hat
    clear hmap hat hW1
    go_enter Tryz.func45, Tryz.ntmps45
    go_wp2_with (go_at_call 66; (with_reducible refine hS.mono ?_); rintro e w1 ⟨rfl, hw1⟩; rw [hw1]; clear hw1 w1)
    go_loopw [4, 15] (fun o i wr => ∃ (k : Nat) (l : List P2), k ≤ n + 1 ∧ i = .int .i64 k ∧ wordsP ((cutL 32 s.data.toList).take k) = some l ∧ l.length = k ∧ wr.ownsRow W1.heap.size 73 2 o k (ptCells l) ∧ Below W1.heap.size W1 wr) (fun _ i _ => n + 1 - (intOf i).toNat)
    case atStart => exact ⟨0, [], Nat.zero_le _, rfl, rfl, rfl, ⟨rfl, .inl ⟨rfl, rfl⟩⟩, bw_refl _⟩
    case round =>
      obtain ⟨k, l, hk, rfl, hwd, hl, hown, hnx⟩ := hrel
      have hzz := hnx.size
      by_cases hlt : k < n + 1
      case neg =>
        obtain rfl : k = n + 1 := by omega
        have hxl : (cutL 32 s.data.toList).length ≤ n + 1 := by
          rcases Nat.lt_or_ge (n + 1) (cutL 32 s.data.toList).length with h | h
          · exfalso
            rw [← HM.out, List.length_map] at h
            rw [HWL.out] at h
            omega
          · exact h
        rw [List.take_of_length_le hxl] at hwd
        obtain ⟨g2, c2, rfl, _, _⟩ := hown.form (by omega)
        have hP := (blk_of_own hown hl).1.pts' hl
        have hO := ok_any (some ⟨g2, 0, none⟩) (n + 1) c2 l (by omega) wr hP
        have HL0 : Hid (l.length = n + 1) := hl
        clear hl hP
        cases hk' : okV l with
        | false =>
          rw [hk'] at hO
          have e1 : Hid (readL s = none) := readL_bad hwd hk'
          clear hwd hk'
          go_wp2_with (go_at_call 36; (with_reducible refine hO.mono ?_); rintro e w2 ⟨rfl, J⟩)
          go_ret2
          exact ⟨_, [], by rw [e1.out]; rfl, by rw [e1.out]; rfl, OWN0 _, bw_trans BW1 (bw_trans hnx J)⟩
        | true =>
          rw [hk'] at hO
          have e1 : Hid (readL s = some l) := readL_some h40 hwd hk'
          clear hwd hk'
          go_wp2_with (go_at_call 36; (with_reducible refine hO.mono ?_); rintro e w2 ⟨rfl, J⟩)
          go_ret2
          exact ⟨_, l, by rw [e1.out]; rfl, by rw [e1.out]; rfl, by rw [HL0.out]; exact own_base (own_b hown J) BW1.size, bw_trans BW1 (bw_trans hnx J)⟩
      case pos =>
        obtain ⟨x, hx1, hx2, hx3⟩ := HAT.out k hlt
        have i3 : (0 : Int) ≤ (k : Int) := Int.natCast_nonneg _
        have i4 : (k : Int) < (n : Int) + 1 := by omega
        have c0 : wr.cell? ⟨w.heap.size, k, none⟩ = some (.string x) := (hnx.cell (p := ⟨w.heap.size, k, none⟩) zT1).trans (by rw [row_cell T1, List.getElem?_toArray, List.getElem?_map, hx1]; rfl)
        have hR := ptRead_any x hx3 wr (hL1.below hnx)
        cases hp : wordP x.data.toList with
        | none =>
          rw [hp] at hR
          have e1 : Hid (readL s = none) := readL_none (wordsP_at hx2 hp)
          clear hx2 hp
          go_wp2_with (go_at_call 67; (with_reducible refine hR.mono ?_); rintro e w2 ⟨rfl, J⟩)
          go_ret2
          exact ⟨_, [], by rw [e1.out]; rfl, by rw [e1.out]; rfl, OWN0 _, bw_alloc (bw_trans BW1 (bw_trans hnx J)) _⟩
        | some p =>
          rw [hp] at hR
          have hR' : Calls Tryz.prog 67 #[.string x] wr fun e w' => e = .returned (.tuple #[.agg #[.int .i64 p.1, .int .i64 p.2], .bool true]) ∧ Below wr.heap.size wr w' := hR
          obtain ⟨px, py⟩ := p
          simp only at hR'
          clear hR
          have hsn : Hid (wordsP ((cutL 32 s.data.toList).take (k + 1)) = some (l ++ [(px, py)])) := by
            change _ = _
            rw [List.take_add_one, hx2, wordsP_append, hwd]
            simp only [Option.toList, wordsP, hp]
            rfl
          have HL0 : Hid (l.length = k) := hl
          clear hwd hx2 hp hl hx1
          go_wp2_with first
            | (go_at_call 67; (with_reducible refine hR'.mono ?_); clear hR'; rintro e w2 ⟨rfl, J⟩; have hown7 := hown.kept (w' := w2) (row := none) ⟨J.os, J.tape, J.output, J.size, fun j hj _ => J.block j hj⟩ (Classical.em _); have hn7 := bw_trans hnx J; have hz7 := hn7.size)
            | (at_builtin; refine wpList_append_lies _ rfl _ _ _ rfl W1.heap.size 73 i0 _ 2 16 Tryz.underlying22 hi0 hz0 hz1 hz2 rfl (by omega) _ k _ rfl ((hown7.alloc _).alloc _) ⟨w2.heap.size + 1, 0, none⟩ 1 1 [.int .i64 px, .int .i64 py] rfl rfl (World.news_of_block (cs := #[.int .i64 px, .int .i64 py]) (t := 73) (fr := (0, 0)) (heap_new1 w2 _ _)) (by simp [Value.oneCell']) (by omega) (by simp [maxLen]; omega) (by omega) (by simp; omega) (w2.heap.size + 2) (by simp) ?_; intro gg cap' w8 hown1 hgrow hat hlt1)
          go_roundw
          case rel => exact ⟨k + 1, l ++ [(px, py)], by omega, by simp, hsn.out, by rw [List.length_append, HL0.out]; rfl, by rw [ptCells_snoc]; exact hown1, (bw_alloc (bw_alloc hn7 _) _).grown hgrow (by simp; omega) (fun j e => (hown7.lt j e).1)⟩
          case measure => simp [intOf]; omega
end Go.Proofs.YthjnfjnnpabenaaGreatDoor
