/-
  OUR OWN TEXT. What the laws of loops draw, by contract.
-/
import Derived.Test.YtfibkhepjpehpaaGreatDoorDrawLoop
namespace Go.Proofs.YtfibkhepjpehpaaGreatDoor
open Go.RowKit

theorem boxes1' (w : World) (o : Obj) : ∃ W, W = w.alloc o ∧ Below w.heap.size w W ∧ W.heap[w.heap.size]? = some o := ⟨_, rfl, (by repeat (first | exact bw_refl _ | assumption | apply bw_drewN | apply bw_drew | apply bw_alloc | refine bw_set ?_ (by simp) _)), heap_new _ _⟩
/-- A loop that was drawn: points of our own memory. -/
def Loopy (base : Nat) (w' : World) (v : Value) (l : List P2) (n : Nat) : Prop :=
  ∃ (g c : Nat), v = .slice (some ⟨g, 0, none⟩) n c ∧ 3 ≤ n ∧ n ≤ 7 ∧ l.length = n ∧ n ≤ c ∧ c ≤ maxLen ∧ base ≤ g ∧ PtBlk w' g c l n
theorem Loopy.below {base : Nat} {w w' : World} {v : Value} {l : List P2} {n : Nat} (h : Loopy base w v l n) (J : Below w.heap.size w w') : Loopy base w' v l n := by
  obtain ⟨g, c, e, h1, h2, h3, h4, h5, h6, h7⟩ := h
  exact ⟨g, c, e, h1, h2, h3, h4, h5, h6, h7.below J⟩
theorem PtBlk.pts' {W : World} {g c n : Nat} {l : List P2} (h : PtBlk W g c l n) (hl : l.length = n) : Pts W.heap.size W (some ⟨g, 0, none⟩) n l := by
  have hg := h.lt
  obtain ⟨cur, h, hs, hc⟩ := h
  refine ⟨hl, .inr ⟨g, 0, rfl, hg, fun j hj => ?_⟩⟩
  rw [Nat.zero_add, row_cell h, row_cell h]; exact hc j hj
set_option maxHeartbeats 1000000 in
theorem drawText_any {a : Option Addr} {len0 cap : Nat} {zs : List Int} (w0 w : World) (h : IsRow .u8 w0 a len0 cap zs) (hb : Below w0.heap.size w0 w) :
    Calls Tryz.prog 5 #[.slice a len0 cap] w fun e w' => ∃ (v : Value) (l : List P2) (n : Nat), e = .returned v ∧ Loopy w.heap.size w' v l n ∧ Below w.heap.size w w' := by
  go_enter Tryz.func5, Tryz.ntmps5
  go_wp2_with fail
  refine (open_rd w0 _ h hb).mono ?_
  rintro e w1 ⟨len, rfl, R, hb1⟩
  have z1 := hb1.size
  have zr := R.lt
  go_wp2_with fail
  refine (loop_any 0 a len cap _ _ (by omega) R).mono ?_
  clear R
  rintro e w2 ⟨g, n, c, l, k', rfl, n3, n7, hl, hnc, hcm, hbg, hbl, hk', R, O⟩
  have BB := hb1.trans (O.below' (B := w.heap.size) (Nat.le_refl _) (by omega))
  go_wp2_with fail
  go_ret
  exact ⟨_, l, n, rfl, ⟨g, c, rfl, n3, n7, hl, hnc, hcm, by omega, hbl⟩, BB⟩
end Go.Proofs.YtfibkhepjpehpaaGreatDoor
