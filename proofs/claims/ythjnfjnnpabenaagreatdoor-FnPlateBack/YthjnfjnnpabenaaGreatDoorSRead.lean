/-
  OUR OWN TEXT. The specification's reading of points, by contract.
-/
import Derived.Test.YthjnfjnnpabenaaGreatDoorSCut
import Derived.Test.YthjnfjnnpabenaaGreatDoorLuL
import Derived.Test.YthjnfjnnpabenaaGreatDoorSPt
namespace Go.Proofs.YthjnfjnnpabenaaGreatDoor
open Go.RowKit Go.Sort

def digB (b : UInt8) : Bool := decide (48 ≤ b.toNat ∧ b.toNat ≤ 57)
/-- The point of a word. -/
def wordP (x : List UInt8) : Option P2 :=
  match x with
  | [a, b, c] => if b = 44 ∧ digB a = true ∧ digB c = true then some (((a.toNat : Int) - 48), ((c.toNat : Int) - 48)) else none
  | _ => none
/-- The points of words, up to one that is none. -/
def wordsP : List (List UInt8) → Option (List P2)
  | [] => some []
  | x :: xs => match wordP x with
    | none => none
    | some p => (wordsP xs).map (p :: ·)
theorem wordsP_snoc (xs : List (List UInt8)) (x : List UInt8) : wordsP (xs ++ [x]) = match wordsP xs with
    | none => none
    | some l => (wordP x).map (fun p => l ++ [p]) := by
  induction xs with
  | nil => cases h : wordP x <;> simp [wordsP, h]
  | cons y ys ih =>
    simp only [List.cons_append, wordsP]
    cases h : wordP y with
    | none => rfl
    | some p =>
      simp only [ih]
      cases wordsP ys with
      | none => rfl
      | some l => cases wordP x <;> rfl
theorem wordsP_none {xs : List (List UInt8)} {k : Nat} (h : wordsP (xs.take k) = none) : wordsP xs = none := by
  induction xs generalizing k with
  | nil => simpa using h
  | cons y ys ih =>
    cases k with
    | zero => simp [wordsP] at h
    | succ k =>
      simp only [List.take_succ_cons, wordsP] at h ⊢
      cases hy : wordP y with
      | none => rfl
      | some p =>
        rw [hy] at h
        simp only [Option.map_eq_none_iff] at h ⊢
        exact ih h
theorem wordsP_len {xs : List (List UInt8)} {l : List P2} (h : wordsP xs = some l) : l.length = xs.length := by
  induction xs generalizing l with
  | nil => simp [wordsP] at h; subst h; rfl
  | cons y ys ih =>
    simp only [wordsP] at h
    cases hy : wordP y with
    | none => rw [hy] at h; cases h
    | some p =>
      rw [hy] at h
      simp only [Option.map_eq_some_iff] at h
      obtain ⟨l', h1, rfl⟩ := h
      simp [ih h1]
theorem own_b {W W' : World} {base : Nat} {e : TypeId} {size n : Nat} {v : Value} {xs : List Value} (h : W.ownsRow base e size v n xs) (J : Below W.heap.size W W') : W'.ownsRow base e size v n xs :=
  h.kept (row := none) ⟨J.os, J.tape, J.output, J.size, fun j hj _ => J.block j hj⟩ (Classical.em _)
theorem wordP_3 {a b c : UInt8} (h : b = 44 ∧ digB a = true ∧ digB c = true) : wordP [a, b, c] = some (((a.toNat : Int) - 48), ((c.toNat : Int) - 48)) := by unfold wordP; simp only; rw [if_pos h]
theorem wordP_no {x : List UInt8} (h : x.length ≠ 3) : wordP x = none := by
  unfold wordP
  split
  · simp at h
  · rfl
theorem wordP_bad {a b c : UInt8} (h : ¬ (b = 44 ∧ digB a = true ∧ digB c = true)) : wordP [a, b, c] = none := by unfold wordP; simp only; rw [if_neg h]
theorem ptHead (l : List P2) (x y : Int) : (ptCells l ++ [Value.int .i64 x, Value.int .i64 y])[0]? = some (.int .i64 ((l ++ [(x, y)]).headD (0, 0)).1) := by
  cases l <;> simp [ptCells]
theorem cell_of_heap {W W' : World} {g j : Nat} (h : W'.heap[g]? = W.heap[g]?) : W'.cell? ⟨g, j, none⟩ = W.cell? ⟨g, j, none⟩ := by
  unfold World.cell?; simp only [h]
set_option maxRecDepth 100000 in
set_option maxHeartbeats 1000000 in
theorem sRead_ok (s : ByteArray) (hs : s.size ≤ 1000) (w : World) :
    Calls Tryz.prog 19 #[.string s] w fun e w' => ∃ (v : Value) (l : List P2), e = .returned (.tuple #[v, .bool (wordsP (cutL 32 s.data.toList)).isSome]) ∧ w'.ownsRow w.heap.size 73 2 v l.length (ptCells l) ∧ l.length ≤ 1001 ∧ (∀ l', wordsP (cutL 32 s.data.toList) = some l' → l = l') ∧ Below w.heap.size w w' := by
  obtain ⟨i0, hi0, hz0, hz1, hz2⟩ := info_parts Tryz.infoPt
  have HN := World.ownsRow_made w (base := w.heap.size) (e := 73) (size := 2) #[] 0 (Nat.le_refl _) (by simp [maxLen]) rfl
  obtain ⟨W, hW, BW⟩ : ∃ W, W = w.alloc (.cells #[] 73) ∧ Below w.heap.size w W := ⟨_, rfl, (by repeat (first | exact bw_refl _ | assumption | apply bw_drewN | apply bw_drew | apply bw_alloc | refine bw_set ?_ (by simp) _))⟩
  have HNW : W.ownsRow w.heap.size 73 2 (.slice (some ⟨w.heap.size, 0, none⟩) 0 0) 0 [] := by rw [hW]; exact HN
  have hcut := sCut_ok s 32 hs W
  have zW : w.heap.size < W.heap.size := by rw [hW]; simp
  have HLn : Hid ((cutL 32 s.data.toList).length ≤ 1001) := by
    have := cutL_len 32 s.data.toList
    have h2 : s.data.toList.length = s.size := by unfold ByteArray.size; exact Array.length_toList
    change _ ≤ _; omega
  obtain ⟨ws, hws⟩ : ∃ ws, cutL 32 s.data.toList = ws := ⟨_, rfl⟩
  have hne : 0 < ws.length := by rw [← hws]; exact List.length_pos_iff.2 (cutL_ne _ _)
  rw [hws] at hcut HLn
  rw [hws]
  clear hws HN
  go_enter Tryz.func19, Tryz.ntmps19
  go_upto_region 2 with fail
  rw [← hW]
  clear hW
  go_wp2_with fail
  refine hcut.mono ?_
  clear hcut
  rintro e w1 ⟨v, rfl, ho, J⟩
  obtain ⟨n, hn⟩ : ∃ n, ws.length = n := ⟨_, rfl⟩
  rw [hn] at ho hne
  have HNn : Hid (ws.length = n) := hn
  have HL : Hid (n ≤ 1001) := by have := HLn.out; change _ ≤ _; omega
  obtain ⟨g, cap, rfl, hg, _⟩ := ho.form hne
  have zg := (ho.lt g rfl).2
  have HC : Hid (∀ j x, ws[j]? = some x → w1.cell? ⟨g, j, none⟩ = some (.string ⟨x.toArray⟩)) := fun j x hx => by
    have hj : j < n := by rw [← hn]; exact (List.getElem?_eq_some_iff.1 hx).1
    rw [ho.cellAt j (by omega)]
    unfold wordsV; rw [List.getElem?_map, hx]; rfl
  have hown0 := own_b HNW J
  have ho' := ho
  have K := bw_trans BW J
  clear ho HNW J hn HLn
  go_wp2_with fail
  have zgW : w.heap.size < g := by have := (ho'.lt g rfl).1; omega
  go_loopw [4, 6] (fun o i wr => ∃ (k : Nat) (v : Value) (l : List P2), v = o ∧ k ≤ n ∧ i = .int .i64 k ∧ wordsP (ws.take k) = some l ∧ l.length = k ∧ wr.ownsRow w.heap.size 73 2 v k (ptCells l) ∧ v.ownBlock ≠ some g ∧ Below w.heap.size w wr ∧ g < wr.heap.size ∧ ∀ j x, ws[j]? = some x → wr.cell? ⟨g, j, none⟩ = some (.string ⟨x.toArray⟩)) (fun _ i _ => n - (intOf i).toNat)
  case atStart => exact ⟨0, _, [], rfl, Nat.zero_le _, rfl, rfl, rfl, hown0, (fun e => by have e' : w.heap.size = g := Option.some.inj e; omega), K, zg, HC.out⟩
  case round =>
    obtain ⟨k, v, l, rfl, hk, rfl, hwl, hll, hown, hvg, hnx, zgr, hcs⟩ := hrel
    have HCr : Hid (∀ j x, ws[j]? = some x → wr.cell? ⟨g, j, none⟩ = some (.string ⟨x.toArray⟩)) := hcs
    clear hcs
    by_cases hlt : k < n
    case neg =>
      obtain rfl : k = n := by omega
      have hall : wordsP ws = some l := by rw [← hwl, List.take_of_length_le (by rw [HNn.out]; exact Nat.le_refl _)]
      have e1 : Hid (Value.bool (wordsP ws).isSome = .bool true) := by change _ = _; rw [hall]; rfl
      go_wp2_with fail
      go_ret2
      refine ⟨v, l, ?_, by rw [hll]; exact hown, by have := HL.out; omega, fun l' h' => by rw [hall] at h'; exact Option.some.inj h', hnx⟩
      rw [e1.out]; rfl
    case pos =>
      obtain ⟨x, hx⟩ : ∃ x, ws[k]? = some x := ⟨ws[k]'(by rw [HNn.out]; exact hlt), List.getElem?_eq_getElem _⟩
      have c0 := HCr.out k x hx
      have i0' : (0 : Int) ≤ (k : Int) := Int.natCast_nonneg _
      have i1 : (k : Int) < (n : Int) := by omega
      have HT : Hid (ws.take (k + 1) = ws.take k ++ [x]) := by change _ = _; rw [List.take_add_one, hx]; rfl
      have hbad : wordP x = none → wordsP ws = none := fun h => by
        apply wordsP_none (k := k + 1)
        rw [HT.out, wordsP_snoc, hwl, h]; rfl
      have HBad : Hid (wordP x = none → wordsP ws = none) := hbad
      have HHx : Hid (ws[k]? = some x) := hx
      clear hbad hx
      have hxz : (ByteArray.mk x.toArray).size = x.length := by simp [ByteArray.size]
      by_cases h3 : x.length = 3
      case neg =>
        have e1 : Hid (wordsP ws = none) := HBad.out (wordP_no h3)
        have h3' : ((x.length : Int) != 3) = true := by simp; omega
        have zw := hnx.size
        clear hwl hown
        go_wp2_with fail
        go_ret2
        exact ⟨_, [], by rw [e1.out]; rfl, World.ownsRow_made wr #[] 0 (by omega) (by simp [maxLen]) rfl, by simp, (fun l' h' => by rw [e1.out] at h'; cases h'), hnx.alloc (by omega) _⟩
      case pos =>
        obtain ⟨a, b, c, rfl⟩ : ∃ a b c, x = [a, b, c] := by
          match x, h3 with
          | [a, b, c], _ => exact ⟨a, b, c, rfl⟩
        have zw := hnx.size
        have g0 : (ByteArray.mk ([a, b, c] : List UInt8).toArray).size = 3 := rfl
        have g1 : ∀ h, (ByteArray.mk #[a, b, c])[1]'h = b := fun _ => rfl
        clear h3 hxz
        by_cases hb : b = 44
        case neg =>
          have e1 : Hid (wordsP ws = none) := HBad.out (wordP_bad (fun h => hb h.1))
          have hb' : ((b.toNat : Int) != 44) = true := by
            simp only [bne_iff_ne, ne_eq]
            intro e
            have h44 : b.toNat = 44 := by omega
            exact hb (UInt8.toNat_inj.1 (h44.trans rfl))
          clear hwl hown
          go_wp2_with fail
          go_ret2
          exact ⟨_, [], by rw [e1.out]; rfl, World.ownsRow_made wr #[] 0 (by omega) (by simp [maxLen]) rfl, by simp, (fun l' h' => by rw [e1.out] at h'; cases h'), hnx.alloc (by omega) _⟩
        case pos =>
          subst hb
          have zwa : wrap64 (a.toNat : Int) = (a.toNat : Int) := by
            have h1 : a.toNat < 256 := a.toNat_lt
            unfold wrap64; omega
          have zwc : wrap64 (c.toNat : Int) = (c.toNat : Int) := by
            have h1 : c.toNat < 256 := c.toNat_lt
            unfold wrap64; omega
          have hD : ∀ (x : UInt8), inR (x.toNat : Int) 48 57 = digB x := fun x => by
            unfold inR digB; congr 1; apply propext; omega
          have g2 : ∀ h, (ByteArray.mk #[a, 44, c])[0]'h = a := fun _ => rfl
          have g3 : ∀ h, (ByteArray.mk #[a, 44, c])[2]'h = c := fun _ => rfl
          have hin0 : ∀ V, Calls Tryz.prog 40 #[.int .i64 (a.toNat : Int), .int .i64 48, .int .i64 57] V fun e w' => e = .returned (.bool (digB a)) ∧ w' = V := fun V => by
            have := in_any (a.toNat : Int) 48 57 V
            rw [hD] at this
            exact this
          have hin2 : ∀ V, Calls Tryz.prog 40 #[.int .i64 (c.toNat : Int), .int .i64 48, .int .i64 57] V fun e w' => e = .returned (.bool (digB c)) ∧ w' = V := fun V => by
            have := in_any (c.toNat : Int) 48 57 V
            rw [hD] at this
            exact this
          have H0 := show Hid _ from hin0
          have H2 := show Hid _ from hin2
          clear hin0 hin2 hD
          by_cases hda : digB a = true
          case neg =>
            have e1 : Hid (wordsP ws = none) := HBad.out (wordP_bad (fun h => hda h.2.1))
            rw [Bool.not_eq_true] at hda
            rw [hda] at H0
            clear hwl hown
            go_wp2_with (go_at_call 40; (with_reducible refine (H0.out _).mono ?_); rintro e wq ⟨rfl, hq⟩; rw [hq]; clear hq wq)
            go_ret2
            exact ⟨_, [], by rw [e1.out]; rfl, World.ownsRow_made wr #[] 0 (by omega) (by simp [maxLen]) rfl, by simp, (fun l' h' => by rw [e1.out] at h'; cases h'), hnx.alloc (by omega) _⟩
          case pos =>
            rw [hda] at H0
            by_cases hdc : digB c = true
            case neg =>
              have e1 : Hid (wordsP ws = none) := HBad.out (wordP_bad (fun h => hdc h.2.2))
              rw [Bool.not_eq_true] at hdc
              rw [hdc] at H2
              clear hwl hown
              go_wp2_with first | (go_at_call 40; (with_reducible refine (H0.out _).mono ?_); rintro e wq ⟨rfl, hq⟩; rw [hq]; clear hq wq) | (go_at_call 40; (with_reducible refine (H2.out _).mono ?_); rintro e wq ⟨rfl, hq⟩; rw [hq]; clear hq wq)
              go_ret2
              exact ⟨_, [], by rw [e1.out]; rfl, World.ownsRow_made wr #[] 0 (by omega) (by simp [maxLen]) rfl, by simp, (fun l' h' => by rw [e1.out] at h'; cases h'), hnx.alloc (by omega) _⟩
            case pos =>
              rw [hdc] at H2
              have hda' : 48 ≤ a.toNat ∧ a.toNat ≤ 57 := by unfold digB at hda; exact of_decide_eq_true hda
              have hdc' : 48 ≤ c.toNat ∧ c.toNat ≤ 57 := by unfold digB at hdc; exact of_decide_eq_true hdc
              have hsn : Hid (wordsP (ws.take (k + 1)) = some (l ++ [((a.toNat : Int) - 48, (c.toNat : Int) - 48)])) := by
                change _ = _
                rw [HT.out, wordsP_snoc, hwl]
                simp only
                rw [wordP_3 ⟨rfl, hda, hdc⟩]; rfl
              have zu1 : IntKind.u8.wrap ((a.toNat : Int) - 48) = (a.toNat : Int) - 48 := by unfold IntKind.wrap; simp [IntKind.bits, IntKind.signed]; omega
              have zu2 : IntKind.u8.wrap ((c.toNat : Int) - 48) = (c.toNat : Int) - 48 := by unfold IntKind.wrap; simp [IntKind.bits, IntKind.signed]; omega
              have zv1 : wrap64 ((a.toNat : Int) - 48) = (a.toNat : Int) - 48 := by unfold wrap64; omega
              have zv2 : wrap64 ((c.toNat : Int) - 48) = (c.toNat : Int) - 48 := by unfold wrap64; omega
              have zi1 : IntKind.i64.wrap ((a.toNat : Int) - 48) = (a.toNat : Int) - 48 := wrap_small (by omega) (by omega)
              have zi2 : IntKind.i64.wrap ((c.toNat : Int) - 48) = (c.toNat : Int) - 48 := wrap_small (by omega) (by omega)
              have hL := HL.out
              clear hwl hda hdc hda' hdc'
              go_wp2_with first | (go_at_call 40; (with_reducible refine (H0.out _).mono ?_); rintro e wq ⟨rfl, hq⟩; rw [hq]; clear hq wq) | (go_at_call 40; (with_reducible refine (H2.out _).mono ?_); rintro e wq ⟨rfl, hq⟩; rw [hq]; clear hq wq)
              go_region_held3 (fun _ => True) (trivial) (first
                | (refine step_append_more (by rfl) _ _ _ (by rfl) w.heap.size 73 i0 _ 2 16 Tryz.underlying22 hi0 hz0 hz1 hz2 rfl (by omega) _ k _ (by rfl) (hown.alloc _) ⟨wr.heap.size, 0, none⟩ 1 1 [.int .i64 ((a.toNat : Int) - 48), .int .i64 ((c.toNat : Int) - 48)] (by rfl) (by rfl) (World.news_of_block (cs := #[.int .i64 ((a.toNat : Int) - 48), .int .i64 ((c.toNat : Int) - 48)]) (t := 73) (fr := (0, 0)) (heap_alloc_new wr _)) (by simp [Value.oneCell']) (by omega) (by simp [maxLen]; omega) (by omega) (by simp; omega) ?_; intro g2 c2 w7 hown1 hgr2 hg2))
              all_goals
                have B1 : Below wr.heap.size wr ((wr.alloc (.cells #[.int .i64 ((a.toNat : Int) - 48), .int .i64 ((c.toNat : Int) - 48)] 73)).drew) := (by repeat (first | exact bw_refl _ | assumption | apply bw_drewN | apply bw_drew | apply bw_alloc | refine bw_set ?_ (by simp) _))
                have hgb : w7.heap[g]? = wr.heap[g]? := (hgr2.block g (by simp; omega) (fun e => hvg e.symm)).trans (B1.block g zgr)
                have B2 := (bw_trans hnx B1).grown hgr2 (by simp; omega) (fun j e => (hown.lt j e).1)
                have zg7 : g < w7.heap.size := by have := hgr2.size; simp at this; omega
                have hcs : ∀ j x, ws[j]? = some x → w7.cell? ⟨g, j, none⟩ = some (.string ⟨x.toArray⟩) := fun j x hj => by
                  rw [cell_of_heap hgb]; exact HCr.out j x hj
                have hgg : g2 ≠ g := fun e => by
                  have e1 := hown1.cellAt 0 (by simp)
                  have e2 := hcs 0 _ (List.getElem?_eq_getElem (by rw [HNn.out]; exact hne))
                  rw [← e] at e2
                  rw [ptHead, e2] at e1
                  exact absurd (Option.some.inj e1) (fun e => Value.noConfusion e)
                go_wp2_with fail
                go_roundw
                case rel => exact ⟨k + 1, _, l ++ [((a.toNat : Int) - 48, (c.toNat : Int) - 48)], rfl, by omega, by first | rfl | simp, hsn.out, by simp [hll], by rw [ptCells_snoc]; exact hown1, (fun e => hgg (Option.some.inj e)), B2, zg7, hcs⟩
                case measure => simp [intOf]; omega
end Go.Proofs.YthjnfjnnpabenaaGreatDoor
