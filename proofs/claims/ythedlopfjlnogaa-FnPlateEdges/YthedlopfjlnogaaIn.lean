/-
  OUR OWN TEXT. LoopIn, by contract, at every points and point.
-/
import Derived.Test.YthedlopfjlnogaaWhere
namespace Go.Proofs.Ythedlopfjlnogaa
open Go.RowKit Go.Shelf Go.Sort

set_option maxRecDepth 100000 in
set_option maxHeartbeats 1000000 in
/-- LoopIn. -/
theorem in_any' (a : Option Addr) (len cap : Nat) (pts : List P2) (p : P2) (hlen : len ≤ 1048576) (w : World) (hP : Pts w.heap.size w a len pts) :
    Calls Try.prog 15 #[.slice a len cap, .agg #[.int .i64 p.1, .int .i64 p.2]] w fun e W' => e = .returned (.int .i64 (inV pts p)) ∧ Below w.heap.size w W' := by
  obtain ⟨W, hW, BW, T⟩ : ∃ W, W = w.alloc (.cells #[.int .i64 p.1, .int .i64 p.2] 33) ∧ Below w.heap.size w W ∧ W.heap[w.heap.size]? = some (.cells #[.int .i64 p.1, .int .i64 p.2] 33) := ⟨_, rfl, (by repeat (first | exact bw_refl _ | assumption | apply bw_drewN | apply bw_drew | apply bw_alloc | refine bw_set ?_ (by simp) _)), heap_new _ _⟩
  have hP1 := (hP.below BW).grow BW.size
  have hcall := ok_any a len cap pts hlen W hP1
  cases hok : okV pts
  · rw [hok] at hcall
    have e1 : Hid (inV pts p = -1) := by change _ = _; unfold inV; rw [hok]; rfl
    go_enter Try.func15, Try.ntmps15
    go_upto_region 1 with fail
    rw [← hW]
    clear hW
    go_wp2_with (go_at_call 47; refine hcall.mono ?_; rintro e v ⟨rfl, J0⟩)
    go_ret
    exact ⟨ret_int e1.out.symm, bw_trans BW J0⟩
  rw [hok] at hcall
  cases hp : ptB p.1 p.2
  · have e1 : Hid (inV pts p = -1) := by change _ = _; unfold inV; rw [hok, hp]; rfl
    go_enter Try.func15, Try.ntmps15
    go_upto_region 1 with fail
    rw [← hW]
    clear hW
    go_wp2_with (go_at_call 47; refine hcall.mono ?_; rintro e v ⟨rfl, J0⟩; obtain ⟨t0, t1⟩ := blk_2 (keep J0 T))
    refine (pt_raw p _).mono ?_
    rw [hp]
    rintro e v2 ⟨rfl, J1⟩
    go_wp2_with fail
    go_ret
    exact ⟨ret_int e1.out.symm, bw_trans (bw_trans BW J0) J1⟩
  · have e1 : Hid (inV pts p = inI pts p) := by change _ = _; unfold inV; rw [hok, hp]; rfl
    go_enter Try.func15, Try.ntmps15
    go_upto_region 1 with fail
    rw [← hW]
    clear hW
    go_wp2_with (go_at_call 47; refine hcall.mono ?_; rintro e v ⟨rfl, J0⟩; obtain ⟨t0, t1⟩ := blk_2 (keep J0 T))
    refine (pt_raw p _).mono ?_
    rw [hp]
    rintro e v2 ⟨rfl, J1⟩
    clear t0 t1
    have J2 := bw_trans J0 J1
    obtain ⟨t0, t1⟩ := blk_2 (keep J2 T)
    go_wp2_with fail
    refine (where_any a len cap pts p hlen hok hp v2 ((hP1.below J2).grow J2.size)).mono ?_
    rintro e v3 ⟨rfl, J3⟩
    go_wp2_with fail
    go_ret
    exact ⟨ret_int e1.out.symm, bw_trans (bw_trans BW J2) J3⟩
end Go.Proofs.Ythedlopfjlnogaa
