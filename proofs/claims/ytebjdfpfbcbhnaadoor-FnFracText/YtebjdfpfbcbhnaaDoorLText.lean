/-
  OUR OWN TEXT. The law FnFracText, walked: whatever bytes come in, it answers true and writes nothing that was there.
-/
import Derived.Test.YtebjdfpfbcbhnaaDoorTextMath
namespace Go.Proofs.YtebjdfpfbcbhnaaDoor
open Go.RowKit

theorem textV_size (n d : Int) : (textV n d).size ≤ 100 := by
  unfold textV
  cases h : okB n d
  · simp [ByteArray.size]
  · have hk := (okB_iff n d).1 h
    have l1 := dec_len n hk.1 hk.2.1
    have l2 := dec_len d (by omega) (by omega)
    by_cases hd : d = 1
    · simp [hd, ByteArray.size]; omega
    · simp [hd, ByteArray.size]; omega
theorem any_snoc (s : ByteArray) (k : Nat) (h : k < s.size) : (s.data.toList.take (k + 1)).any (· == 47) = ((s.data.toList.take k).any (· == 47) || s[k] == 47) := by
  rw [List.take_succ_eq_append_getElem (by simpa using h), List.any_append]
  simp; rfl

theorem byte_test (c : UInt8) : ((c.toNat : Int) == 47) = (c == 47) := by
  rw [Bool.eq_iff_iff]; simp; constructor
  · intro h; exact UInt8.toNat_inj.1 (by simp; omega)
  · intro h; rw [h]; rfl

theorem text_long (w : World) (a0 : Option Addr) (len0 cap0 : Nat) (a1 : Option Addr) (len1 cap1 : Nat) (h : 1048576 < len0 ∨ 1048576 < len1) :
    Calls Tryd.prog 7 #[.slice a0 len0 cap0, .slice a1 len1 cap1] w fun e w' => e = .returned (.bool true) ∧ Below w.heap.size w w' := by
  by_cases h0 : 1048576 < len0
  · go_enter Tryd.func7, Tryd.ntmps7
    go_wp2
    go_ret
    exact ⟨rfl, bw_refl _⟩
  · have h1 : 1048576 < len1 := by omega
    clear h
    go_enter Tryd.func7, Tryd.ntmps7
    go_wp2
    go_ret
    exact ⟨rfl, bw_refl _⟩

set_option maxHeartbeats 2000000 in
theorem text_walk (w : World) (a0 : Option Addr) (len0 cap0 : Nat) (z0 : List Int) (r0 : IsRow .u8 w a0 len0 cap0 z0) (a1 : Option Addr) (len1 cap1 : Nat) (z1 : List Int) (r1 : IsRow .u8 w a1 len1 cap1 z1) (a : Addr) (hs : Sent a w) (hT : Tab w) :
    Calls Tryd.prog 7 #[.slice a0 len0 cap0, .slice a1 len1 cap1] w fun e w' => e = .returned (.bool true) ∧ Below w.heap.size w w' := by
  by_cases hl : 1048576 < len0 ∨ 1048576 < len1
  · exact text_long w a0 len0 cap0 a1 len1 cap1 hl
  have hl0 : len0 ≤ 1048576 := by omega
  have hl1 : len1 ≤ 1048576 := by omega
  clear hl
  go_enter Tryd.func7, Tryd.ntmps7
  go_wp2_with fail
  refine (drawText_any w _ r0 (bw_refl _)).mono ?_
  rintro e w1 ⟨n, d, rfl, _, b1⟩
  have FA1 := heap_new w1 (.cells #[.int .i64 n, .int .i64 d] 26)
  have LA1 : w1.heap.size < (w1.alloc (.cells #[.int .i64 n, .int .i64 d] 26)).heap.size := by simp
  have B1 := bw_alloc b1 (.cells #[.int .i64 n, .int .i64 d] 26)
  clear b1
  go_wp2_with fail
  refine (drawOk_any w _ r1 B1).mono ?_
  rintro e w2 ⟨m, b, rfl, _, J0⟩
  have J1 := bw_alloc J0 (.cells #[.int .i64 m, .int .i64 b] 26)
  have B := bw_trans B1 J1
  have FA := (J1.block _ LA1).trans FA1
  have LA := Nat.lt_of_lt_of_le LA1 J1.size
  have FB := heap_new w2 (.cells #[.int .i64 m, .int .i64 b] 26)
  have LB : w2.heap.size < (w2.alloc (.cells #[.int .i64 m, .int .i64 b] 26)).heap.size := by simp
  have hz : w1.heap.size < w2.heap.size := by have := J0.size; simp only [size_new] at this; omega
  obtain ⟨f0, f1⟩ := box2 J0 LA1 FA1
  clear J0 J1 FA1 LA1 B1
  go_wp2_with fail
  refine (iText_any n d a _ (hs.below B) (hT.below B)).mono ?_
  rintro e w3 ⟨rfl, J⟩
  clear f0 f1 hz
  obtain ⟨g0, g1⟩ := box2 J LB FB
  go_wp2_with fail
  refine (iText_any m b a _ (hs.below (bw_trans B J)) (hT.below (bw_trans B J))).mono ?_
  rintro e w4 ⟨rfl, b4⟩
  replace J := bw_trans J b4
  clear b4 g0 g1
  obtain ⟨f0, f1⟩ := box2 J LA FA
  go_wp2_with fail
  refine (sText_any n d _).mono ?_
  rintro e w5 ⟨rfl, b5⟩
  replace J := bw_trans J b5
  clear b5 f0 f1
  obtain ⟨f0, f1⟩ := box2 J LA FA
  obtain ⟨g0, g1⟩ := box2 J LB FB
  cases hA : (textV n d).toList.isEmpty
  · cases hB : (textV m b).toList.isEmpty
    · have hSz : (textV n d).size ≤ 100 := textV_size n d
      go_wp2_with fail
      go_loop [9, 10] (fun st i => ∃ k : Nat, k ≤ (textV n d).size ∧ i = .int .i64 k ∧ st = .bool (((textV n d).data.toList.take k).any (· == 47))) (fun _ i => (textV n d).size - (intOf i).toNat)
      case atStart => exact ⟨0, Nat.zero_le _, rfl, rfl⟩
      case round =>
        obtain ⟨k, hk, rfl, rfl⟩ := hrel
        by_cases hlt : k < (textV n d).size
        · have HS : Hid (((textV n d).data.toList.take (k + 1)).any (· == 47) = (((textV n d).data.toList.take k).any (· == 47) || (textV n d)[k] == 47)) := any_snoc _ k hlt
          cases hst : ((textV n d).data.toList.take k).any (· == 47)
          · cases hbt : (textV n d)[k] == 47
            · have hbI : (((textV n d)[k].toNat : Int) == 47) = false := by rw [byte_test]; exact hbt
              go_wp2_with fail
              go_round
              case rel => exact ⟨k + 1, by omega, by go_num, by rw [HS.out, hst, hbt]; rfl⟩
              case measure => simp [intOf]; omega
            · have hbI : (((textV n d)[k].toNat : Int) == 47) = true := by rw [byte_test]; exact hbt
              go_wp2_with fail
              go_round
              case rel => exact ⟨k + 1, by omega, by go_num, by rw [HS.out, hst, hbt]; rfl⟩
              case measure => simp [intOf]; omega
          · go_wp2_with fail
            go_round
            case rel => exact ⟨k + 1, by omega, by go_num, by rw [HS.out, hst]; rfl⟩
            case measure => simp [intOf]; omega
        · have hst : ((textV n d).data.toList.take k).any (· == 47) = (d != 1) := by
            rw [List.take_of_length_le (by show (textV n d).size ≤ k; omega)]
            exact text_stroke n d (text_ok n d hA)
          have hc := text_cases n d m b hA hB
          cases hd1 : d != 1
          all_goals rw [hd1] at hst
          all_goals rcases hc with ⟨rfl, rfl⟩ | ⟨hn, hq⟩ | ⟨rfl, hn, hq⟩
          all_goals
            go_wp2_with fail
            go_ret
            exact ⟨rfl, bw_trans B J⟩
    · go_wp2_with fail
      refine (sText_any n d _).mono ?_
      rintro e w6 ⟨rfl, b6⟩
      replace J := bw_trans J b6
      go_wp2_with fail
      go_ret
      exact ⟨rfl, bw_trans B J⟩
  · go_wp2_with fail
    refine (sText_any n d _).mono ?_
    rintro e w6 ⟨rfl, b6⟩
    replace J := bw_trans J b6
    go_wp2_with fail
    go_ret
    exact ⟨rfl, bw_trans B J⟩
end Go.Proofs.YtebjdfpfbcbhnaaDoor
