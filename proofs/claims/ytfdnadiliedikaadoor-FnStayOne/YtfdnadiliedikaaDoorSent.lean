/-
  OUR OWN TEXT. Lines sent into a channel with room for all, by contract: nobody waits.
-/
import Derived.Test.YtfdnadiliedikaaDoorCodeW
namespace Go.Proofs.YtfdnadiliedikaaDoor
open Go.RowKit Go.Sort Go.Conc

/-- A slice of strings. -/
def StrRow (W : World) (a : Option Addr) (n : Nat) (xs : List ByteArray) : Prop :=
  xs.length = n ∧ (n = 0 ∨ ∃ g, a = some ⟨g, 0, none⟩ ∧ g < W.heap.size ∧ ∀ j x, xs[j]? = some x → W.cell? ⟨g, j, none⟩ = some (.string x))
theorem StrRow.below {W W' : World} {a : Option Addr} {n : Nat} {xs : List ByteArray} (h : StrRow W a n xs) (J : Below W.heap.size W W') : StrRow W' a n xs := by
  obtain ⟨h1, h2⟩ := h
  refine ⟨h1, h2.imp id ?_⟩
  rintro ⟨g, e, hg, hc⟩
  exact ⟨g, e, Nat.lt_of_lt_of_le hg J.size, fun j x hx => (J.cell (p := ⟨g, j, none⟩) hg).trans (hc j x hx)⟩
theorem mkch (n : Nat) (hn : n ≤ 1000000) (w : World) : (Instr.makeChan 79 (.int .i64 (n : Int))).run Tryd.prog w = .ok (.chan (some w.heap.size)) (w.alloc (.chan n #[] false 0 0 false)) := by
  have h : (Tryd.prog.info? 9).map (·.bytes) = some 16 := by kernel_rfl
  obtain ⟨i, hi, hb⟩ := Option.map_eq_some_iff.1 h
  simpa using run_makeChan (P := Tryd.prog) (w := w) Tryd.underlying79 hi .i64 n (by omega) (by rw [hb]; omega)
set_option maxRecDepth 100000 in
set_option maxHeartbeats 2000000 in
theorem sent_ok (a : Option Addr) (n c : Nat) (xs : List ByteArray) (w : World) (hS : StrRow w a n xs) (hn : n ≤ 100000) :
    Calls Tryd.prog 31 #[.slice a n c] w fun e w' => ∃ ch, e = .returned (.chan (some ch)) ∧ w'.heap[ch]? = some (.chan n (xs.map Value.string).toArray true n 0 false) ∧ w.heap.size ≤ ch ∧ Below w.heap.size w w' := by
  have hmk := mkch n (by omega) w
  refine calls_of_wpN Tryd.func31 rfl ?_
  simp only [Tryd.f31, List.size_toArray, List.length_cons, List.length_nil, Nat.reduceAdd, Nat.reduceSub, Array.replicate_succ, Array.replicate_zero, List.push_toArray, List.append_toArray, List.nil_append, List.cons_append]
  refine wpN_seq (wpN_of ?_)
  go_wp2_with fail
  refine wpN_seq (wpN_of ?_)
  go_wp2_with fail
  refine wpN_seq (wpN_seq (wpN_of ?_))
  go_wp2_with fail
  refine wpN_block ?_
  obtain ⟨hSl, hSc⟩ := hS
  have hin : ∀ k, k < n → ∃ x, xs[k]? = some x ∧ ∃ g, a = some ⟨g, 0, none⟩ ∧ g < w.heap.size ∧ w.cell? ⟨g, k, none⟩ = some (.string x) := fun k hk => by
    rcases hSc with h0 | ⟨g, e, hg, hc⟩
    · omega
    · exact ⟨xs[k]'(by omega), List.getElem?_eq_getElem _, g, e, hg, hc k _ (List.getElem?_eq_getElem _)⟩
  refine wpN_loop n (fun j a' w' => ∃ (k : Nat) (x5 x12 x13 x14 x15 x16 x17 : Value), k + j = n ∧ a' = { tmps := #[.slice a n c, undef, .chan none, .chan (some w.heap.size), undef, x5, .slice a n c, .int .i64 n, .chan (some w.heap.size), .slice a n c, .int .i64 n, .int .i64 k, x12, x13, x14, x15, x16, x17, undef, undef], defers := [] } ∧ w'.heap[w.heap.size]? = some (.chan n ((xs.take k).map Value.string).toArray false k 0 false) ∧ Below w.heap.size w w') ?_ ?_ ?_
  · exact ⟨0, _, _, _, _, _, _, _, by omega, rfl, by simpa using heap_new w _, (by repeat (first | exact bw_refl _ | assumption | apply bw_drewN | apply bw_drew | apply bw_alloc | refine bw_set ?_ (by simp) _))⟩
  · rintro j a' w' ⟨k, x5, x12, x13, x14, x15, x16, x17, hk, rfl, hch, hB⟩
    obtain ⟨x, hx, g, rfl, hg, hcx⟩ := hin k (by omega)
    have c0 : w'.cell? ⟨g, k, none⟩ = some (.string x) := (hB.cell (p := ⟨g, k, none⟩) hg).trans hcx
    have hlt : (k : Int) < (n : Int) := by omega
    have i0 : (0 : Int) ≤ (k : Int) := Int.natCast_nonneg _
    refine wpN_seq (wpN_of ?_)
    go_wp2_with fail
    refine wpN_seq (wpN_of ?_)
    go_wp2_with fail
    refine wpN_seq (wpN_block (wpN_seq (wpN_of ?_)))
    go_wp2_with fail
    refine wpN_region ?_
    simp only [List.size_toArray, List.length_cons, List.length_nil, Nat.reduceAdd, List.range, List.range.loop]
    refine wpM_value (w' := w') (v := .chan (some w.heap.size)) rfl (by rfl) (by simp [go_sem]) ?_
    refine wpM_value (w' := w') (v := .string x) rfl (by rfl) (by simp [go_sem, Act.put]) ?_
    refine wpM_send (c := w.heap.size) (v := .string x) (z' := .tuple #[]) rfl (by rfl) (by simp [execOp, scase, Act.eval, Act.put]) hch (by simp; omega) ?_
    refine wpM_done ?_
    simp only [Exit.inBlock, Exit.then]
    refine wpN_of ?_
    have hsn : Hid ((((xs.take k).map Value.string).toArray).push (.string x) = ((xs.take (k + 1)).map Value.string).toArray) := by
      change _ = _
      rw [List.take_add_one, hx]
      simp
    have hlc := blk_lt hch
    rw [hsn.out]
    have hV1 := heap_setChan w' w.heap.size n ((xs.take (k + 1)).map Value.string).toArray false (k + 1) 0 false hlc
    have hV2 := below_setChan hB (Nat.le_refl _) n ((xs.take (k + 1)).map Value.string).toArray false (k + 1) 0 false
    generalize w'.setChan w.heap.size n ((xs.take (k + 1)).map Value.string).toArray false (k + 1) 0 false = V at hV1 hV2 ⊢
    go_wp2_with fail
    exact ⟨k + 1, .string x, .bool true, .pointer (some ⟨g, k, none⟩), .string x, .chan (some w.heap.size), .string x, .int .i64 ((k : Int) + 1), by omega, by simp, hV1, hV2⟩
  · rintro a' w' ⟨k, x5, x12, x13, x14, x15, x16, x17, hk, rfl, hch, hB⟩
    obtain rfl : k = n := by omega
    have hall : Hid (xs.take k = xs) := List.take_of_length_le (by rw [hSl]; exact Nat.le_refl _)
    rw [hall.out] at hch
    have hcl := fun ats ty => run_close_open (P := Tryd.prog) (w := w') ats ty hch
    have hlc := blk_lt hch
    refine wpN_seq (wpN_of ?_)
    go_wp2_with fail
    refine wpN_seq (wpN_of ?_)
    go_wp2_with fail
    refine wpN_seq (wpN_of ?_)
    go_wp2_with fail
    refine wpN_of ?_
    go_wp2_with fail
    refine bodyPost_ret (v := .chan (some w.heap.size)) (by simp [results, go_sem]) rfl ?_
    exact ⟨w.heap.size, rfl, heap_setChan _ _ _ _ _ _ _ _ hlc, Nat.le_refl _, below_setChan hB (Nat.le_refl _) _ _ _ _ _ _⟩
end Go.Proofs.YtfdnadiliedikaaDoor
