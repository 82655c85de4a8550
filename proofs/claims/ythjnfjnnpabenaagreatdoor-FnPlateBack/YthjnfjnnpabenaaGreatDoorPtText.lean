/-
  OUR OWN TEXT. The text of a point: the program's and the specification's, by contract.
-/
import Derived.Test.YthjnfjnnpabenaaGreatDoorItoa
import Derived.Test.YthjnfjnnpabenaaGreatDoorLoopM
import Derived.Test.YthjnfjnnpabenaaGreatDoorBoxes
import Derived.Lib.Join
namespace Go.Proofs.YthjnfjnnpabenaaGreatDoor
open Go.RowKit Go.Sort

/-- The letters of a point. -/
def wdL (p : P2) : List UInt8 := Lib.decDigits p.1.toNat ++ [44] ++ Lib.decDigits p.2.toNat
def wdB (p : P2) : ByteArray := ⟨(wdL p).toArray⟩
theorem wdB_eq (p : P2) : ByteArray.mk (Lib.decDigits p.1.toNat).toArray ++ ByteArray.mk #[44] ++ ByteArray.mk (Lib.decDigits p.2.toNat).toArray = wdB p := by
  have e : (ByteArray.mk #[44]) = ByteArray.mk ([44] : List UInt8).toArray := rfl
  rw [e, ByteArray.mk_append_mk, ByteArray.mk_append_mk]; rfl
theorem wdL_len {p : P2} (hp : ptB p.1 p.2 = true) : (wdL p).length ≤ 43 := by
  obtain ⟨a, b, c, d⟩ := (ptB_iff _ _).1 hp
  have l1 := dec_len p.1 (by omega) (by omega)
  have l2 := dec_len p.2 (by omega) (by omega)
  unfold wdL
  simp only [List.length_append, List.length_cons, List.length_nil]
  omega
set_option maxHeartbeats 1000000 in
theorem sPtText_ok (p : P2) (hp : ptB p.1 p.2 = true) (w : World) :
    Calls Tryz.prog 56 #[.agg #[.int .i64 p.1, .int .i64 p.2]] w fun e w' => e = .returned (.string (wdB p)) ∧ Below w.heap.size w w' := by
  obtain ⟨W, hW, BW, T⟩ : ∃ W, W = w.alloc (.cells #[.int .i64 p.1, .int .i64 p.2] 73) ∧ Below w.heap.size w W ∧ W.heap[w.heap.size]? = some (.cells #[.int .i64 p.1, .int .i64 p.2] 73) := ⟨_, rfl, (by repeat (first | exact bw_refl _ | assumption | apply bw_drewN | apply bw_drew | apply bw_alloc | refine bw_set ?_ (by simp) _)), heap_new _ _⟩
  obtain ⟨a, b, c, d⟩ := (ptB_iff _ _).1 hp
  have e1 : Hid (ByteArray.mk (Lib.decDigits p.1.toNat).toArray ++ ByteArray.mk #[44] ++ ByteArray.mk (Lib.decDigits p.2.toNat).toArray = wdB p) := wdB_eq p
  have l1 := dec_len p.1 (by omega) (by omega)
  have l2 := dec_len p.2 (by omega) (by omega)
  have C1 : Hid (∀ w, Calls Tryz.prog 75 #[.int .i64 p.1] w fun e w'' => e = .returned (.string ⟨(Lib.decDigits p.1.toNat).toArray⟩) ∧ Below w.heap.size w w'') := fun w => dec_int p.1 w (by omega) (by omega)
  have C2 : Hid (∀ w, Calls Tryz.prog 75 #[.int .i64 p.2] w fun e w'' => e = .returned (.string ⟨(Lib.decDigits p.2.toNat).toArray⟩) ∧ Below w.heap.size w w'') := fun w => dec_int p.2 w (by omega) (by omega)
  obtain ⟨t0, t1⟩ := reg_2 T
  obtain ⟨px, py⟩ := p
  dsimp only at *
  clear hp a b c d
  go_enter Tryz.func56, Tryz.ntmps56
  go_upto_region 1 with fail
  rw [← hW]
  clear hW
  refine wp_region_quiet_below (by kernel_rfl) (by kernel_rfl) ?_
  repeat (first | go_big_quiet_step (first | (go_at_call 75; with_reducible exact Calls.regrown_of (C1.out _)) | (go_at_call 75; with_reducible exact Calls.regrown_of (C2.out _))))
  refine wpQuiet_nil ?_
  intro _ hw'
  obtain ⟨⟨dq, osq⟩, hw''⟩ := hw'
  subst hw''
  have J := below_regrown W dq osq
  generalize grow (redrawn W dq) osq = v at J ⊢
  go_wp2_with fail
  go_ret
  exact ⟨ret_str e1.out, bw_trans BW J⟩
set_option maxHeartbeats 1000000 in
theorem ptText_ok (p : P2) (hp : ptB p.1 p.2 = true) (w : World) (hT : Tab w) :
    Calls Tryz.prog 54 #[.agg #[.int .i64 p.1, .int .i64 p.2]] w fun e w' => e = .returned (.string (wdB p)) ∧ Below w.heap.size w w' := by
  obtain ⟨W, hW, BW, T⟩ : ∃ W, W = w.alloc (.cells #[.int .i64 p.1, .int .i64 p.2] 73) ∧ Below w.heap.size w W ∧ W.heap[w.heap.size]? = some (.cells #[.int .i64 p.1, .int .i64 p.2] 73) := ⟨_, rfl, (by repeat (first | exact bw_refl _ | assumption | apply bw_drewN | apply bw_drew | apply bw_alloc | refine bw_set ?_ (by simp) _)), heap_new _ _⟩
  obtain ⟨a, b, c, d⟩ := (ptB_iff _ _).1 hp
  have e1 : Hid (ByteArray.mk (Lib.decDigits p.1.toNat).toArray ++ ByteArray.mk #[44] ++ ByteArray.mk (Lib.decDigits p.2.toNat).toArray = wdB p) := wdB_eq p
  have l1 := dec_len p.1 (by omega) (by omega)
  have l2 := dec_len p.2 (by omega) (by omega)
  have hTW := hT.below BW
  have C1 : Hid (∀ d' os, Calls Tryz.prog 73 #[.int .i64 p.1] (grow (redrawn W d') os) fun e w'' => e = .returned (.string ⟨(Lib.decDigits p.1.toNat).toArray⟩) ∧ Below (grow (redrawn W d') os).heap.size (grow (redrawn W d') os) w'') := fun d' os => itoa_any p.1 _ (by omega) (by omega) (hTW.below (below_regrown W d' os))
  have C2 : Hid (∀ d' os, Calls Tryz.prog 73 #[.int .i64 p.2] (grow (redrawn W d') os) fun e w'' => e = .returned (.string ⟨(Lib.decDigits p.2.toNat).toArray⟩) ∧ Below (grow (redrawn W d') os).heap.size (grow (redrawn W d') os) w'') := fun d' os => itoa_any p.2 _ (by omega) (by omega) (hTW.below (below_regrown W d' os))
  obtain ⟨t0, t1⟩ := reg_2 T
  obtain ⟨px, py⟩ := p
  dsimp only at *
  clear hp a b c d
  go_enter Tryz.func54, Tryz.ntmps54
  go_upto_region 1 with fail
  rw [← hW]
  clear hW
  refine wp_region_quiet_below (by kernel_rfl) (by kernel_rfl) ?_
  repeat (first | go_big_quiet_step (first | (go_at_call 73; with_reducible exact Calls.regrown_of (C1.out _ _)) | (go_at_call 73; with_reducible exact Calls.regrown_of (C2.out _ _))))
  refine wpQuiet_nil ?_
  intro _ hw'
  obtain ⟨⟨dq, osq⟩, hw''⟩ := hw'
  subst hw''
  have J := below_regrown W dq osq
  generalize grow (redrawn W dq) osq = v at J ⊢
  go_wp2_with fail
  go_ret
  exact ⟨ret_str e1.out, bw_trans BW J⟩
end Go.Proofs.YthjnfjnnpabenaaGreatDoor
