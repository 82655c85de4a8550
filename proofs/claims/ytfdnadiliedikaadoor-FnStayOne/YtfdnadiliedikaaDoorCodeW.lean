/-
  OUR OWN TEXT. The program's writing of a path: a line, and the channel, by contract; condition: the library's table of powers of ten lies as its initialiser lays it.
-/
import Derived.Test.YtfdnadiliedikaaDoorCodeTxM
import Derived.Test.YtfdnadiliedikaaDoorItoa
import Derived.Test.YtfdnadiliedikaaDoorBoxes
import Derived.Test.YtfdnadiliedikaaDoorLoneW
import Derived.Conc.SmallLaws
import Derived.Conc.EventLaws
namespace Go.Proofs.YtfdnadiliedikaaDoor
open Go.RowKit Go.Sort Go.Conc

theorem word_any (k : Nat) (w : World) : Calls Tryd.prog 55 #[.int .i64 k] w fun e w' => e = .returned (.string ⟨(cwL k).toArray⟩) ∧ Below w.heap.size w w' := by
  by_cases h0 : k = 0
  · subst h0
    go_enter Tryd.func55, Tryd.ntmps55
    go_wp2_with fail
    go_ret
    exact ⟨rfl, bw_refl _⟩
  · have e1 : Hid (cwL k = [71, 49]) := by change _ = _; unfold cwL; rw [if_neg h0]
    have h0' : ((k : Int) == 0) = false := by simp; omega
    go_enter Tryd.func55, Tryd.ntmps55
    go_wp2_with fail
    go_ret
    exact ⟨by rw [e1.out]; rfl, bw_refl _⟩
theorem lnB_eq (k : Nat) (p : P2) : ByteArray.mk (cwL k).toArray ++ ByteArray.mk #[32, 88] ++ ByteArray.mk (Lib.decDigits p.1.toNat).toArray ++ ByteArray.mk #[32, 89] ++ ByteArray.mk (Lib.decDigits p.2.toNat).toArray ++ ByteArray.mk #[10] = lnB k p := by
  unfold lnB lnL
  apply ByteArray.ext
  simp
set_option maxRecDepth 100000 in
set_option maxHeartbeats 1000000 in
theorem codeLine_ok (k : Nat) (p : P2) (hp : okP p = true) (w : World) (hT : Tab w) :
    Calls Tryd.prog 30 #[.int .i64 k, .agg #[.int .i64 p.1, .int .i64 p.2]] w fun e w' => e = .returned (.string (lnB k p)) ∧ Below w.heap.size w w' := by
  obtain ⟨W, hW, BW, T⟩ : ∃ W, W = w.alloc (.cells #[.int .i64 p.1, .int .i64 p.2] 42) ∧ Below w.heap.size w W ∧ W.heap[w.heap.size]? = some (.cells #[.int .i64 p.1, .int .i64 p.2] 42) := ⟨_, rfl, (by repeat (first | exact bw_refl _ | assumption | apply bw_drewN | apply bw_drew | apply bw_alloc | refine bw_set ?_ (by simp) _)), heap_new _ _⟩
  obtain ⟨⟨a, b⟩, c, d⟩ := (okP_iff p).1 hp
  have e1 : Hid (ByteArray.mk (cwL k).toArray ++ ByteArray.mk #[32, 88] ++ ByteArray.mk (Lib.decDigits p.1.toNat).toArray ++ ByteArray.mk #[32, 89] ++ ByteArray.mk (Lib.decDigits p.2.toNat).toArray ++ ByteArray.mk #[10] = lnB k p) := lnB_eq k p
  have l0 : (ByteArray.mk (cwL k).toArray).size = 2 := by have := cwL_len k; unfold ByteArray.size; simpa using this
  have l1 := dec_len p.1 (by omega) (by omega)
  have l2 := dec_len p.2 (by omega) (by omega)
  have hTW := hT.below BW
  have C0 : Hid (∀ d' os, Calls Tryd.prog 55 #[.int .i64 k] (grow (redrawn W d') os) fun e w'' => e = .returned (.string ⟨(cwL k).toArray⟩) ∧ Below (grow (redrawn W d') os).heap.size (grow (redrawn W d') os) w'') := fun d' os => word_any k _
  have C1 : Hid (∀ d' os, Calls Tryd.prog 56 #[.int .i64 p.1] (grow (redrawn W d') os) fun e w'' => e = .returned (.string ⟨(Lib.decDigits p.1.toNat).toArray⟩) ∧ Below (grow (redrawn W d') os).heap.size (grow (redrawn W d') os) w'') := fun d' os => itoa_any p.1 _ (by omega) (by omega) (hTW.below (below_regrown W d' os))
  have C2 : Hid (∀ d' os, Calls Tryd.prog 56 #[.int .i64 p.2] (grow (redrawn W d') os) fun e w'' => e = .returned (.string ⟨(Lib.decDigits p.2.toNat).toArray⟩) ∧ Below (grow (redrawn W d') os).heap.size (grow (redrawn W d') os) w'') := fun d' os => itoa_any p.2 _ (by omega) (by omega) (hTW.below (below_regrown W d' os))
  obtain ⟨t0, t1⟩ := reg_2 T
  obtain ⟨px, py⟩ := p
  dsimp only at *
  clear hp a b c d
  generalize cwL k = cw at *
  go_enter Tryd.func30, Tryd.ntmps30
  go_upto_region 1 with fail
  rw [← hW]
  clear hW
  refine wp_region_quiet_below (by kernel_rfl) (by kernel_rfl) ?_
  repeat (first | go_big_quiet_step (first | (go_at_call 55; with_reducible exact Calls.regrown_of (C0.out _ _)) | (go_at_call 56; with_reducible exact Calls.regrown_of (C1.out _ _)) | (go_at_call 56; with_reducible exact Calls.regrown_of (C2.out _ _))))
  refine wpQuiet_nil ?_
  intro _ hw'
  obtain ⟨⟨dq, osq⟩, hw''⟩ := hw'
  subst hw''
  have J := below_regrown W dq osq
  generalize grow (redrawn W dq) osq = v at J ⊢
  go_wp2_with fail
  go_ret
  exact ⟨ret_str e1.out, bw_trans BW J⟩
end Go.Proofs.YtfdnadiliedikaaDoor
