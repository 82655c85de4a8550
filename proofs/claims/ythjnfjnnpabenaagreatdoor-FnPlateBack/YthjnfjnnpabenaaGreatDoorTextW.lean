/-
  OUR OWN TEXT. The text of points: the program's and the specification's, by contract.
-/
import Derived.Test.YthjnfjnnpabenaaGreatDoorTextM2
import Derived.Test.YthjnfjnnpabenaaGreatDoorEdgeS
import Derived.Test.YthjnfjnnpabenaaGreatDoorToPts
import Derived.OwnWalk
import Derived.Deep.AppendLies
namespace Go.Proofs.YthjnfjnnpabenaaGreatDoor
open Go.RowKit Go.Sort

theorem Tryz.infoStr : (Tryz.prog.info? 9).map (fun i => (i.zero, i.size, i.bytes)) = some (some (.string ⟨#[]⟩), 1, 16) := by kernel_rfl
theorem take_snoc {l : List P2} {k : Nat} (h : k < l.length) : l.take (k + 1) = l.take k ++ [ptAt l k] := by
  rw [List.take_add_one]; simp [ptAt, h]
set_option maxRecDepth 100000 in
set_option maxHeartbeats 2000000 in
theorem sText_ok (a : Option Addr) (len cap : Nat) (l : List P2) (hlen : len ≤ 1000) (w : World) (hP : Pts w.heap.size w a len l) (hok : ∀ i, i < len → ptB (ptAt l i).1 (ptAt l i).2 = true) :
    Calls Tryz.prog 35 #[.slice a len cap] w fun e w' => e = .returned (.string (txB l)) ∧ Below w.heap.size w w' := by
  have HL : Hid (l.length = len) := hP.1
  have HK : Hid (∀ i, i < len → ptB (ptAt l i).1 (ptAt l i).2 = true) := hok
  have HA : Hid (∀ k, k ≤ len → (txB (l.take k)).size ≤ 44 * k) := fun k hk => by
    have := txB_size (l.take k) (fun p hp => by
      obtain ⟨j, hj, rfl⟩ := List.getElem_of_mem hp
      have hj' := hj
      rw [List.length_take] at hj'
      have := hok j (by omega)
      rw [List.getElem_take]
      unfold ptAt at this
      rwa [List.getElem?_eq_getElem (by omega), Option.getD_some] at this)
    rw [List.length_take] at this
    have h2 := HL.out
    omega
  have HS : Hid (∀ k, k < len → 0 < k → txB (l.take k) ++ ByteArray.mk #[32] ++ wdB (ptAt l k) = txB (l.take (k + 1))) := fun k hk h0 => by
    rw [take_snoc (by rw [HL.out]; exact hk)]
    exact txB_snoc (List.ne_nil_of_length_pos (by rw [List.length_take, HL.out]; omega)) _
  have H1 : Hid (0 < len → wdB (ptAt l 0) = txB (l.take 1)) := fun h0 => by
    rw [take_snoc (k := 0) (by rw [HL.out]; exact h0), List.take_zero, List.nil_append, txB_one]
  have H0 : Hid (txB (l.take 0) = ⟨#[]⟩) := rfl
  have HE : Hid (txB (l.take len) = txB l) := by change _ = _; rw [List.take_of_length_le (by rw [HL.out]; exact Nat.le_refl _)]
  clear hok
  go_enter Tryz.func35, Tryz.ntmps35
  go_wp2_with fail
  go_loopw [3, 4] (fun s i wr => ∃ k : Nat, k ≤ len ∧ i = .int .i64 k ∧ s = .string (txB (l.take k)) ∧ Below w.heap.size w wr) (fun _ i _ => len - (intOf i).toNat)
  case atStart => exact ⟨0, Nat.zero_le _, rfl, by rw [H0.out], bw_refl _⟩
  case round =>
    obtain ⟨k, hk, rfl, rfl, hnx⟩ := hrel
    by_cases hlt : k < len
    case neg =>
      obtain rfl : k = len := by omega
      rw [HE.out]
      go_wp2_with fail
      go_ret
      exact ⟨rfl, hnx⟩
    case pos =>
      rcases hP.2 with h0 | ⟨b, off, rfl, hbl, hcs⟩
      · omega
      obtain ⟨c0, c1⟩ := hcs k hlt
      have d0 := (hnx.cell (p := ⟨b, off + k * 2, none⟩) hbl).trans c0
      have d1 := (hnx.cell (p := ⟨b, off + k * 2 + 1, none⟩) hbl).trans c1
      have hpk := HK.out k hlt
      have hsz := HA.out k hk
      have hwz := wdB_size hpk
      clear hcs c0 c1
      rcases Nat.eq_zero_or_pos k with h0 | h0
      · subst h0
        have hst := H1.out hlt
        have e0 : Hid (txB (l.take 0) ++ wdB (ptAt l 0) = txB (l.take (0 + 1))) := by
          change _ = _
          rw [H0.out, Nat.zero_add, ← hst]
          apply ByteArray.ext
          simp
        clear hst
        rw [Nat.zero_mul, Nat.add_zero] at d0 d1
        go_wp2_with fail
        refine (sPtText_ok _ hpk _).mono ?_
        rintro e w1 ⟨rfl, J⟩
        generalize txB (l.take 0) = s0 at *
        go_wp2_with fail
        go_roundw
        case rel => exact ⟨1, by omega, by simp, by rw [e0.out], bw_trans hnx J⟩
        case measure => simp [intOf]; omega
      · have e0 := HS.out k hlt h0
        have HE0 : Hid (txB (l.take k) ++ ByteArray.mk #[32] ++ wdB (ptAt l k) = txB (l.take (k + 1))) := e0
        have i0 : (0 : Int) < (k : Int) := by omega
        clear e0
        go_wp2_with fail
        refine (sPtText_ok _ hpk _).mono ?_
        rintro e w1 ⟨rfl, J⟩
        go_wp2_with fail
        go_roundw
        case rel => exact ⟨k + 1, by omega, by simp, by rw [HE0.out], bw_trans hnx J⟩
        case measure => simp [intOf]; omega
set_option maxRecDepth 100000 in
set_option maxHeartbeats 2000000 in
theorem ptsText_ok (a : Option Addr) (len cap : Nat) (l : List P2) (hlen : len ≤ 1000) (w : World) (hT : Tab w) (hP : Pts w.heap.size w a len l) (hok : ∀ i, i < len → ptB (ptAt l i).1 (ptAt l i).2 = true) :
    Calls Tryz.prog 32 #[.slice a len cap] w fun e w' => e = .returned (.string (txB l)) ∧ Below w.heap.size w w' := by
  obtain ⟨i0, hi0, hz0, hz1, hz2⟩ := info_parts Tryz.infoStr
  have HL : Hid (l.length = len) := hP.1
  have HK : Hid (∀ i, i < len → ptB (ptAt l i).1 (ptAt l i).2 = true) := hok
  have HT : Hid (∀ k, k < len → l.take (k + 1) = l.take k ++ [ptAt l k]) := fun k hk => take_snoc (by rw [HL.out]; exact hk)
  have HE : Hid (l.take len = l) := by change _ = _; rw [List.take_of_length_le (by rw [HL.out]; exact Nat.le_refl _)]
  have hsize : (txL l).length ≤ 44 * l.length := txL_len l (fun p hp => by
      obtain ⟨j, hj, rfl⟩ := List.getElem_of_mem hp
      have := hok j (by rw [← HL.out]; exact hj)
      unfold ptAt at this
      rwa [List.getElem?_eq_getElem hj, Option.getD_some] at this)
  clear hok
  go_enter Tryz.func32, Tryz.ntmps32
  go_wp2_with (at_make; refine wpList_make_own _ rfl _ _ 38 rfl w.heap.size 9 i0 _ 1 Tryz.underlying38 hi0 hz0 hz1 .i64 .i64 _ len rfl rfl rfl (by rw [hz2]; omega) (by simp [maxLen]; omega) (Nat.le_refl _) ?_; intro w1 hown hgr)
  have hB1 : Below w.heap.size w w1 := (Below.refl _ _).grown hgr (Nat.le_refl _) (fun k e => by cases e)
  clear hgr
  go_loopw [3, 11] (fun s i wr => ∃ k : Nat, k ≤ len ∧ i = .int .i64 k ∧ s = .slice (some ⟨w.heap.size, 0, none⟩) k len ∧ wr.ownsRow w.heap.size 9 1 (.slice (some ⟨w.heap.size, 0, none⟩) k len) k ((l.take k).map fun p => Value.string (wdB p)) ∧ Below w.heap.size w wr) (fun _ i _ => len - (intOf i).toNat)
  case atStart => exact ⟨0, Nat.zero_le _, rfl, rfl, hown, hB1⟩
  case round =>
    obtain ⟨k, hk, rfl, rfl, hown, hnx⟩ := hrel
    by_cases hlt : k < len
    case neg =>
      obtain rfl : k = len := by omega
      rw [HE.out] at hown
      have hcells : ∀ (j : Nat) x, (l.map wdB)[j]? = some x → wr.cell? ⟨w.heap.size, 0 + j, none⟩ = some (.string x) := fun j x hx => by
        have h1 := words_at l j x hx
        have hj : j < k := by have := (List.getElem?_eq_some_iff.1 hx).1; rw [List.length_map, HL.out] at this; exact this
        rw [Nat.zero_add, hown.cellAt j (by omega)]; exact h1
      have hJ := shelf_strings_Join w.heap.size 0 k (l.map wdB) (ByteArray.mk #[32]) wr hcells (hown.lt _ rfl).2 (by rw [List.length_map, HL.out]; omega) (by rw [List.length_map, HL.out]; exact Nat.le_refl _) (by rw [words_join]; rw [HL.out] at hsize; omega)
      rw [words_join, List.length_map, HL.out] at hJ
      clear hown hcells
      go_wp2_with fail
      refine hJ.mono ?_
      rintro e w2 ⟨rfl, J⟩
      go_wp2_with fail
      go_ret
      exact ⟨rfl, bw_trans hnx J⟩
    case pos =>
      rcases hP.2 with h0 | ⟨b, off, rfl, hbl, hcs⟩
      · omega
      obtain ⟨c0, c1⟩ := hcs k hlt
      have d0 := (hnx.cell (p := ⟨b, off + k * 2, none⟩) hbl).trans c0
      have d1 := (hnx.cell (p := ⟨b, off + k * 2 + 1, none⟩) hbl).trans c1
      have hpk := HK.out k hlt
      have hsn : Hid (((l.take (k + 1)).map fun p => Value.string (wdB p)) = ((l.take k).map fun p => Value.string (wdB p)) ++ [.string (wdB (ptAt l k))]) := by
        change _ = _; rw [HT.out k hlt, List.map_append]; rfl
      clear hcs c0 c1
      obtain ⟨V, hV, BV, T⟩ : ∃ V, V = wr.alloc (.cells #[.int .i64 (ptAt l k).1, .int .i64 (ptAt l k).2] 73) ∧ Below wr.heap.size wr V ∧ V.heap[wr.heap.size]? = some (.cells #[.int .i64 (ptAt l k).1, .int .i64 (ptAt l k).2] 73) := ⟨_, rfl, (by repeat (first | exact bw_refl _ | assumption | apply bw_drewN | apply bw_drew | apply bw_alloc | refine bw_set ?_ (by simp) _)), heap_new _ _⟩
      have hownV : V.ownsRow w.heap.size 9 1 (.slice (some ⟨w.heap.size, 0, none⟩) k len) k ((l.take k).map fun p => Value.string (wdB p)) := by rw [hV]; exact hown.alloc _
      have hnV := bw_trans hnx BV
      go_upto_region 5 with fail
      rw [← hV]
      clear hV d0 d1 hown
      obtain ⟨t0, t1⟩ := blk_2 T
      go_wp2_with fail
      refine (ptText_ok _ hpk _ (hT.below hnV)).mono ?_
      rintro e w2 ⟨rfl, J⟩
      have hK2 := bw_trans hnV J
      have hown2 : w2.ownsRow w.heap.size 9 1 (.slice (some ⟨w.heap.size, 0, none⟩) k len) k ((l.take k).map fun p => Value.string (wdB p)) := hownV.kept (row := none) ⟨J.os, J.tape, J.output, J.size, fun j hj _ => J.block j hj⟩ (Classical.em _)
      have hz2' := hK2.size
      clear t0 t1
      go_wp2_with (at_builtin; refine wpList_append_fits _ rfl _ _ 38 rfl w.heap.size 9 i0 1 Tryz.underlying38 hi0 hz1 w.heap.size k len _ rfl (hown2.alloc _) ⟨w2.heap.size, 0, none⟩ 1 1 [.string (wdB (ptAt l k))] rfl rfl (World.news_of_block (cs := #[.string (wdB (ptAt l k))]) (t := 9) (fr := (0, 0)) (heap_alloc_new w2 _)) (by simp [Value.oneCell']) (by omega) ?_; intro w3 hown3 hgr3)
      go_roundw
      case rel => exact ⟨k + 1, by omega, by simp, rfl, by rw [hsn.out]; exact hown3, (hK2.alloc hz2' _).grown hgr3 (by simp; omega) (fun j e => by have e' : w.heap.size = j := Option.some.inj e; omega)⟩
      case measure => simp [intOf]; omega
end Go.Proofs.YthjnfjnnpabenaaGreatDoor
