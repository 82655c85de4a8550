/-
  OUR OWN TEXT. The specification's cutting of a text, by contract.
-/
import Derived.Test.YtfdnadiliedikaaDoorSplitM
import Derived.Test.YtfdnadiliedikaaDoorTextW
import Derived.Deep.RegionHeld3
namespace Go.Proofs.YtfdnadiliedikaaDoor
open Go.RowKit Go.Sort

theorem cutL_len (c : UInt8) (l : List UInt8) : (cutL c l).length ≤ l.length + 1 := by
  induction l with
  | nil => simp [cutL]
  | cons b r ih =>
    by_cases hb : b = c
    · rw [cutL, if_pos hb]; simp only [List.length_cons] at ih ⊢; omega
    · rw [cutL, if_neg hb]
      cases h : cutL c r with
      | nil => simp
      | cons x xs => rw [h] at ih; simp only [List.length_cons] at ih ⊢; omega
theorem cutL_word (c : UInt8) (l : List UInt8) : ∀ x ∈ cutL c l, x.length ≤ l.length := by
  induction l with
  | nil => intro x hx; simp [cutL] at hx; subst hx; simp
  | cons b r ih =>
    intro x hx
    by_cases hb : b = c
    · rw [cutL, if_pos hb] at hx
      rcases List.mem_cons.1 hx with e | e
      · subst e; simp
      · have := ih x e; simp only [List.length_cons]; omega
    · rw [cutL, if_neg hb] at hx
      cases h : cutL c r with
      | nil => rw [h] at hx; simp at hx; subst hx; simp
      | cons y ys =>
        rw [h] at hx ih
        rcases List.mem_cons.1 hx with e | e
        · subst e; have := ih y (by simp); simp only [List.length_cons]; omega
        · have := ih x (by simp [e]); simp only [List.length_cons]; omega
theorem cellAl' {W : World} {o : Obj} {a : Addr} {v : Value} (h : W.cell? a = some v) : (W.alloc o).cell? a = some v := (Below.cell (bw_alloc (bw_refl _) o) (World.block_lt_of_cell? _ _ h)).trans h
/-- Words, as a row of strings. -/
def wordsV (ls : List (List UInt8)) : List Value := ls.map fun x => Value.string ⟨x.toArray⟩
set_option maxRecDepth 100000 in
set_option maxHeartbeats 2000000 in
theorem sCut_big (s : ByteArray) (c : UInt8) (hs : s.size ≤ 5000) (w : World) :
    Calls Tryd.prog 46 #[.string s, .int .u8 c.toNat] w fun e w' => ∃ v, e = .returned v ∧ w'.ownsRow w.heap.size 9 1 v (cutL c s.data.toList).length (wordsV (cutL c s.data.toList)) ∧ Below w.heap.size w w' := by
  obtain ⟨i0, hi0, hz0, hz1, hz2⟩ := info_parts Tryd.infoStr
  have H0 : w.ownsRow w.heap.size 9 1 (.slice none 0 0) 0 [] := World.ownsRow_nil _ _ _ _
  have HN := World.ownsRow_lit w (base := w.heap.size) (e := 9) (size := 1) #[.string ⟨#[]⟩] 1 (Nat.le_refl _) (by simp [maxLen]) rfl
  go_enter Tryd.func46, Tryd.ntmps46
  go_wp2_with fail
  go_loopw [5, 6] (fun o i wr => ∃ (k : Nat) (v : Value), v = o ∧ k ≤ s.size ∧ i = .int .i64 k ∧ wr.ownsRow w.heap.size 9 1 v (cutL c (s.data.toList.take k)).length (wordsV (cutL c (s.data.toList.take k))) ∧ Below w.heap.size w wr) (fun _ i _ => s.size - (intOf i).toNat)
  case atStart => exact ⟨0, _, rfl, Nat.zero_le _, rfl, HN, (by repeat (first | exact bw_refl _ | assumption | apply bw_drewN | apply bw_drew | apply bw_alloc | refine bw_set ?_ (by simp) _))⟩
  case round =>
    obtain ⟨k, v, rfl, hk, rfl, hown, hnx⟩ := hrel
    by_cases hlt : k < s.size
    case neg =>
      obtain rfl : k = s.size := by omega
      rw [List.take_of_length_le (by unfold ByteArray.size; simp)] at hown
      go_wp2_with fail
      go_ret
      exact ⟨_, rfl, hown, hnx⟩
    case pos =>
      have i0' : (0 : Int) ≤ (k : Int) := Int.natCast_nonneg _
      have i1 : (k : Int) < (s.size : Int) := by omega
      have hkd : k < s.data.toList.length := by unfold ByteArray.size at hlt; simpa using hlt
      have htk : s.data.toList.take (k + 1) = s.data.toList.take k ++ [s[k]] := by
        rw [List.take_add_one, List.getElem?_eq_getElem hkd]; rfl
      have HT : Hid (s.data.toList.take (k + 1) = s.data.toList.take k ++ [s[k]]) := htk
      have hle : (cutL c (s.data.toList.take k)).length ≤ k + 1 := by
        have := cutL_len c (s.data.toList.take k); rw [List.length_take] at this; omega
      have q1 : IntKind.i64.wrap ((k : Int) + 1) = (k : Int) + 1 := wrap_small (by omega) (by omega)
      have zw := hnx.size
      clear htk
      by_cases hc : s[k] = c
      case pos =>
        have hE : ((s[k].toNat : Int) == (c.toNat : Int)) = true := by rw [hc]; simp
        have HC : Hid (s[k] = c) := hc
        obtain ⟨n, hn⟩ : ∃ n, (cutL c (s.data.toList.take k)).length = n := ⟨_, rfl⟩
        have HNn : Hid ((cutL c (s.data.toList.take k)).length = n) := hn
        rw [hn] at hown hle
        clear hc hn
        go_wp2_with (at_builtin; refine wpList_append_lies _ rfl _ _ _ rfl w.heap.size 9 i0 _ 1 16 Tryd.underlying46 hi0 hz0 hz1 hz2 rfl (by omega) _ n _ rfl (hown.alloc _) ⟨wr.heap.size, 0, none⟩ 1 1 [.string ⟨#[]⟩] rfl rfl (World.news_of_block (cs := #[.string ⟨#[]⟩]) (t := 9) (fr := (0, 0)) (heap_alloc_new wr _)) (by simp [Value.oneCell']) (by omega) (by simp [maxLen]; omega) (by omega) (by simp; omega) (wr.heap.size + 1) (by simp) ?_; intro gg cap' w8 hown1 hgrow hat hlt1)
        go_roundw
        case rel =>
          refine ⟨k + 1, _, rfl, by omega, by simp, ?_, (hnx.alloc hnx.size _).grown hgrow (by simp; omega) (fun j e => (hown.lt j e).1)⟩
          rw [HT.out, HC.out, cutL_snoc_hit, List.length_append, HNn.out]
          unfold wordsV at hown1 ⊢
          rw [List.map_append]
          exact hown1
        case measure => simp [intOf]; omega
      case neg =>
        have hE : ((s[k].toNat : Int) == (c.toNat : Int)) = false := by
          rw [beq_eq_false_iff_ne]; intro e; exact hc (UInt8.toNat_inj.1 (by omega))
        obtain ⟨u, x, hux, hux2⟩ := cutL_snoc_miss (c := c) hc (s.data.toList.take k)
        have HX : Hid (cutL c (s.data.toList.take k ++ [s[k]]) = u ++ [x ++ [s[k]]]) := hux2
        rw [hux] at hown hle
        obtain ⟨m, hm⟩ : ∃ m, u.length = m := ⟨_, rfl⟩
        rw [List.length_append, List.length_cons, List.length_nil, hm] at hown hle
        have HM : Hid (u.length = m) := hm
        obtain ⟨g, cap, rfl, hg, hcap⟩ := hown.form (by omega)
        have hcl := hown.cellAt m (by omega)
        have hfz := hown.frozenAt m
        have hcx : wr.cell? ⟨g, m, none⟩ = some (.string ⟨x.toArray⟩) := by
          rw [hcl]; unfold wordsV; rw [List.map_append, List.getElem?_append_right (by rw [List.length_map, hm]; exact Nat.le_refl _), List.length_map, hm, Nat.sub_self]; rfl
        have zg := (hown.lt g rfl).2
        have j1 : IntKind.i64.wrap (m : Int) = (m : Int) := wrap_small (by omega) (by omega)
        have j2 : (0 : Int) ≤ (m : Int) := Int.natCast_nonneg _
        have j3 : (m : Int) < (m : Int) + 1 := by omega
        have hxl : x.length ≤ k := by
          have := cutL_word c (s.data.toList.take k) x (by rw [hux]; simp); rw [List.length_take] at this; omega
        have hcv := conv_one (s[k].toNat : Int) (by omega) (by have := s[k].toNat_lt; omega)
        have hxz : (ByteArray.mk x.toArray).size ≤ 5000 := by unfold ByteArray.size; simp; omega
        have HCat : Hid (ByteArray.mk x.toArray ++ ByteArray.mk #[s[k]] = ByteArray.mk (x ++ [s[k]]).toArray) := by
          change _ = _
          rw [show (ByteArray.mk #[s[k]]) = ByteArray.mk ([s[k]] : List UInt8).toArray from rfl, ByteArray.mk_append_mk]
        -- REGION
        clear hc hux hux2 hm hcl
        have hmx : Tryd.prog.follows .mixedOrders = true := by kernel_rfl
        go_wp2_with fail
        refine wp_region_held (S := fun _ => True) hmx ?_
        refine wpAnyH_take (i := 0) (v := .slice (some ⟨g, 0, none⟩) (m + 1) cap) rfl (by kernel_rfl) (by kernel_rfl) (by kernel_rfl) (fun _ _ _ h => h) (Or.inl ⟨by rfl, by rintro w' -; go_simp⟩) trivial ?_
        refine wpAnyH_take (i := 1) (v := .slice (some ⟨g, 0, none⟩) (m + 1) cap) rfl (by kernel_rfl) (by kernel_rfl) (by kernel_rfl) (fun _ _ _ h => h) (Or.inl ⟨by rfl, by rintro w' -; go_simp⟩) trivial ?_
        refine wpAnyH_take (i := 2) (v := .int .i64 ((m : Int) + 1)) rfl (by kernel_rfl) (by kernel_rfl) (by kernel_rfl) (fun _ _ _ h => h) (Or.inl ⟨by rfl, by rintro w' -; go_simp⟩) trivial ?_
        refine wpAnyH_take (i := 3) (v := .int .i64 (m : Int)) rfl (by kernel_rfl) (by kernel_rfl) (by kernel_rfl) (fun _ _ _ h => h) (Or.inl ⟨by rfl, by rintro w' -; go_simp⟩) trivial ?_
        refine wpAnyH_take (i := 4) (v := .slice (some ⟨g, 0, none⟩) (m + 1) cap) rfl (by kernel_rfl) (by kernel_rfl) (by kernel_rfl) (fun _ _ _ h => h) (Or.inl ⟨by rfl, by rintro w' -; go_simp⟩) trivial ?_
        refine wpAnyH_take (i := 5) (v := .slice (some ⟨g, 0, none⟩) (m + 1) cap) rfl (by kernel_rfl) (by kernel_rfl) (by kernel_rfl) (fun _ _ _ h => h) (Or.inl ⟨by rfl, by rintro w' -; go_simp⟩) trivial ?_
        refine wpAnyH_take (i := 6) (v := .int .i64 ((m : Int) + 1)) rfl (by kernel_rfl) (by kernel_rfl) (by kernel_rfl) (fun _ _ _ h => h) (Or.inl ⟨by rfl, by rintro w' -; go_simp⟩) trivial ?_
        refine wpAnyH_take (i := 7) (v := .int .i64 (m : Int)) rfl (by kernel_rfl) (by kernel_rfl) (by kernel_rfl) (fun _ _ _ h => h) (Or.inl ⟨by rfl, by rintro w' -; go_simp⟩) trivial ?_
        refine wpAnyH_take (i := 8) (v := .pointer (some ⟨g, m, none⟩)) rfl (by kernel_rfl) (by kernel_rfl) (by kernel_rfl) (fun _ _ _ h => h) (Or.inl ⟨by rfl, by rintro w' -; go_simp⟩) trivial ?_
        refine wpAnyH_take (i := 10) (v := .string s) rfl (by kernel_rfl) (by kernel_rfl) (by kernel_rfl) (fun _ _ _ h => h) (Or.inl ⟨by rfl, by rintro w' -; go_simp⟩) trivial ?_
        refine wpAnyH_take (i := 11) (v := .int .i64 (k : Int)) rfl (by kernel_rfl) (by kernel_rfl) (by kernel_rfl) (fun _ _ _ h => h) (Or.inl ⟨by rfl, by rintro w' -; go_simp⟩) trivial ?_
        refine wpAnyH_take (i := 12) (v := .int .u8 (s[k].toNat : Int)) rfl (by kernel_rfl) (by kernel_rfl) (by kernel_rfl) (fun _ _ _ h => h) (Or.inl ⟨by rfl, by rintro w' -; go_simp⟩) trivial ?_
        have hc1 : (wr.drew.alloc (.cells #[.int .u8 (s[k].toNat : Int)] 5)).cell? ⟨g, m, none⟩ = some (.string ⟨x.toArray⟩) := cellAl' hcx
        have hn1 : (wr.drew.alloc (.cells #[.int .u8 (s[k].toNat : Int)] 5)).cell? ⟨wr.heap.size, 0, none⟩ = some (.int .u8 (s[k].toNat : Int)) := (row_cell (heap_new wr.drew (.cells #[.int .u8 (s[k].toNat : Int)] 5))).trans rfl
        have hx9 : (9223372036854775807 < x.length + 1) = False := by simp; omega
        have hcv1 := hcv (wr.drew.alloc (.cells #[.int .u8 (s[k].toNat : Int)] 5)) wr.heap.size hn1
        refine wpAnyH_all (rs := [9, 13]) (by kernel_rfl) (by simp) ?_
        intro i hi
        have hi' : i = 9 ∨ i = 13 := by simpa using hi
        clear hi
        rcases hi' with rfl | rfl
        · skip
          refine YieldsIf.wpOp (S := fun w' => w' = wr.drew) (v := .string ⟨x.toArray⟩) rfl (Or.inl ⟨by rfl, by rintro w' rfl; go_simp⟩) rfl ⟨trivial, ?_⟩
          refine wpAnyH_all (rs := [13]) (by kernel_rfl) (by simp) ?_
          intro i hi
          have h7 := List.mem_singleton.1 hi
          clear hi
          subst h7
          refine wpOp_now rfl (by rfl) ?_
          go_simp
          refine wpAnyH_all (rs := [14]) (by kernel_rfl) (by simp) ?_
          intro i hi
          have h7 := List.mem_singleton.1 hi
          clear hi
          subst h7
          refine wpOp_now rfl (by rfl) ?_
          go_simp
          refine wpAnyH_take (i := 15) (v := .string ⟨(x ++ [s[k]]).toArray⟩) rfl (by kernel_rfl) (by kernel_rfl) (by kernel_rfl) (fun _ _ _ h => h) (Or.inl ⟨by rfl, by rintro w' -; go_simp; try rw [HCat.out]⟩) trivial ?_
          refine wpAnyH_take (i := 16) (v := .pointer (some ⟨g, m, none⟩)) rfl (by kernel_rfl) (by kernel_rfl) (by kernel_rfl) (fun _ _ _ h => h) (Or.inl ⟨by rfl, by rintro w' -; go_simp⟩) trivial ?_
          refine wpAnyH_all (rs := [17]) (by kernel_rfl) (by simp) ?_
          intro i hi
          have h7 := List.mem_singleton.1 hi
          clear hi
          subst h7
          refine wpOp_now rfl (by rfl) ?_
          go_simp
          refine wpAnyH_done (by kernel_rfl) ?_ _
          try simp only [Exit.then]
          have hst := hown.stored m (.string ⟨(x ++ [s[k]]).toArray⟩)
          have hst2 := hst.1.alloc (.cells #[.int .u8 (s[k].toNat : Int)] 5)
          have B1 := hnx.grown hst.2 zw (fun j e => by have e' : g = j := Option.some.inj e; omega)
          go_wp2_with fail
          go_roundw
          case rel =>
            refine ⟨k + 1, _, rfl, by omega, by simp, ?_, by repeat (first | exact B1 | apply bw_drew | apply bw_alloc)⟩
            rw [HT.out, HX.out, List.length_append, HM.out]
            have h1 := hst2
            unfold wordsV at h1 ⊢
            rw [List.map_append, List.set_append_right _ _ (by rw [List.length_map, HM.out]; exact Nat.le_refl _), List.length_map, HM.out, Nat.sub_self] at h1
            rw [List.map_append]
            exact h1
          case measure => simp [intOf]; omega
        · skip
          refine wpOp_now rfl (by rfl) ?_
          go_simp
          refine wpAnyH_all (rs := [9, 14]) (by kernel_rfl) (by simp) ?_
          intro i hi
          have hi' : i = 9 ∨ i = 14 := by simpa using hi
          clear hi
          rcases hi' with rfl | rfl
          · skip
            refine YieldsIf.wpOp (S := fun w' => w' = (wr.drew.alloc (.cells #[.int .u8 (s[k].toNat : Int)] 5))) (v := .string ⟨x.toArray⟩) rfl (Or.inl ⟨by rfl, by rintro w' rfl; go_simp⟩) rfl ⟨trivial, ?_⟩
            refine wpAnyH_all (rs := [14]) (by kernel_rfl) (by simp) ?_
            intro i hi
            have h7 := List.mem_singleton.1 hi
            clear hi
            subst h7
            refine wpOp_now rfl (by rfl) ?_
            go_simp
            refine wpAnyH_take (i := 15) (v := .string ⟨(x ++ [s[k]]).toArray⟩) rfl (by kernel_rfl) (by kernel_rfl) (by kernel_rfl) (fun _ _ _ h => h) (Or.inl ⟨by rfl, by rintro w' -; go_simp; try rw [HCat.out]⟩) trivial ?_
            refine wpAnyH_take (i := 16) (v := .pointer (some ⟨g, m, none⟩)) rfl (by kernel_rfl) (by kernel_rfl) (by kernel_rfl) (fun _ _ _ h => h) (Or.inl ⟨by rfl, by rintro w' -; go_simp⟩) trivial ?_
            refine wpAnyH_all (rs := [17]) (by kernel_rfl) (by simp) ?_
            intro i hi
            have h7 := List.mem_singleton.1 hi
            clear hi
            subst h7
            refine wpOp_now rfl (by rfl) ?_
            go_simp
            refine wpAnyH_done (by kernel_rfl) ?_ _
            try simp only [Exit.then]
            have hst := hown.stored m (.string ⟨(x ++ [s[k]]).toArray⟩)
            have hst2 := hst.1.alloc (.cells #[.int .u8 (s[k].toNat : Int)] 5)
            have B1 := hnx.grown hst.2 zw (fun j e => by have e' : g = j := Option.some.inj e; omega)
            go_wp2_with fail
            go_roundw
            case rel =>
              refine ⟨k + 1, _, rfl, by omega, by simp, ?_, by repeat (first | exact B1 | apply bw_drew | apply bw_alloc)⟩
              rw [HT.out, HX.out, List.length_append, HM.out]
              have h1 := hst2
              unfold wordsV at h1 ⊢
              rw [List.map_append, List.set_append_right _ _ (by rw [List.length_map, HM.out]; exact Nat.le_refl _), List.length_map, HM.out, Nat.sub_self] at h1
              rw [List.map_append]
              exact h1
            case measure => simp [intOf]; omega
          · skip
            refine wpOp_now rfl (by rfl) ?_
            go_simp
            refine wpAnyH_all (rs := [9]) (by kernel_rfl) (by simp) ?_
            intro i hi
            have h7 := List.mem_singleton.1 hi
            clear hi
            subst h7
            refine YieldsIf.wpOp (S := fun w' => w' = (wr.drew.alloc (.cells #[.int .u8 (s[k].toNat : Int)] 5))) (v := .string ⟨x.toArray⟩) rfl (Or.inl ⟨by rfl, by rintro w' rfl; go_simp⟩) rfl ⟨trivial, ?_⟩
            refine wpAnyH_take (i := 15) (v := .string ⟨(x ++ [s[k]]).toArray⟩) rfl (by kernel_rfl) (by kernel_rfl) (by kernel_rfl) (fun _ _ _ h => h) (Or.inl ⟨by rfl, by rintro w' -; go_simp; try rw [HCat.out]⟩) trivial ?_
            refine wpAnyH_take (i := 16) (v := .pointer (some ⟨g, m, none⟩)) rfl (by kernel_rfl) (by kernel_rfl) (by kernel_rfl) (fun _ _ _ h => h) (Or.inl ⟨by rfl, by rintro w' -; go_simp⟩) trivial ?_
            refine wpAnyH_all (rs := [17]) (by kernel_rfl) (by simp) ?_
            intro i hi
            have h7 := List.mem_singleton.1 hi
            clear hi
            subst h7
            refine wpOp_now rfl (by rfl) ?_
            go_simp
            refine wpAnyH_done (by kernel_rfl) ?_ _
            try simp only [Exit.then]
            have hst := hown.stored m (.string ⟨(x ++ [s[k]]).toArray⟩)
            have hst2 := hst.1.alloc (.cells #[.int .u8 (s[k].toNat : Int)] 5)
            have B1 := hnx.grown hst.2 zw (fun j e => by have e' : g = j := Option.some.inj e; omega)
            go_wp2_with fail
            go_roundw
            case rel =>
              refine ⟨k + 1, _, rfl, by omega, by simp, ?_, by repeat (first | exact B1 | apply bw_drew | apply bw_alloc)⟩
              rw [HT.out, HX.out, List.length_append, HM.out]
              have h1 := hst2
              unfold wordsV at h1 ⊢
              rw [List.map_append, List.set_append_right _ _ (by rw [List.length_map, HM.out]; exact Nat.le_refl _), List.length_map, HM.out, Nat.sub_self] at h1
              rw [List.map_append]
              exact h1
            case measure => simp [intOf]; omega
theorem sCut_ok (s : ByteArray) (c : UInt8) (hs : s.size ≤ 1000) (w : World) :
    Calls Tryd.prog 46 #[.string s, .int .u8 c.toNat] w fun e w' => ∃ v, e = .returned v ∧ w'.ownsRow w.heap.size 9 1 v (cutL c s.data.toList).length (wordsV (cutL c s.data.toList)) ∧ Below w.heap.size w w' := sCut_big s c (by omega) w
end Go.Proofs.YtfdnadiliedikaaDoor
