/-
  OUR OWN TEXT. impl.divide, impl.ratioOf and the two methods of a found fraction, by contract, for every pair of numbers; the one condition: the package variable errNoFrac holds a pointer to an errors.errorString, as its initialiser lays it.
-/
import Derived.Test.YtebjdfpfbcbhnaaDoorGcd
import Derived.Test.YtebjdfpfbcbhnaaDoorIs
import Derived.Deep.RegionWith
import Derived.Below
namespace Go.Proofs.YtebjdfpfbcbhnaaDoor
open Go.RowKit

/-- The sentinel's variable holds the pointer a. -/
def Sent (a : Addr) (w : World) : Prop := w.cell? ⟨0, 0, none⟩ = some (.iface 101 (.pointer (some a)))
theorem Sent.lt {a : Addr} {w : World} (h : Sent a w) : 0 < w.heap.size := by
  rcases Nat.lt_or_ge 0 w.heap.size with h' | h'
  · exact h'
  · unfold Sent at h; simp [World.cell?, Array.getElem?_eq_none h'] at h
theorem Sent.below {a : Addr} {w w' : World} (h : Sent a w) (hb : Below w.heap.size w w') : Sent a w' := by
  have hl := h.lt
  unfold Sent at *; rw [hb.cell (p := ⟨0, 0, none⟩) hl]; exact h
theorem below_drewN (w : World) (n : Nat) : Below w.heap.size w (w.drewN n) := ⟨rfl, rfl, rfl, Nat.le_refl _, fun _ _ => rfl⟩

theorem bw_refl (w : World) : Below w.heap.size w w := Below.refl _ _
theorem bw_alloc {a w : World} (h : Below a.heap.size a w) (o : Obj) : Below a.heap.size a (w.alloc o) := h.alloc h.size o
theorem bw_drew {a w : World} (h : Below a.heap.size a w) : Below a.heap.size a w.drew := h.drew
theorem bw_drewN {a w : World} (h : Below a.heap.size a w) (n : Nat) : Below a.heap.size a (w.drewN n) := h.trans ⟨rfl, rfl, rfl, Nat.le_refl _, fun _ _ => rfl⟩
theorem bw_trans {a w w' : World} (h : Below a.heap.size a w) (k : Below w.heap.size w w') : Below a.heap.size a w' := h.trans (k.mono h.size)
theorem bw_set {a w : World} (h : Below a.heap.size a w) {p : Addr} (hp : a.heap.size ≤ p.block) (u : Value) : Below a.heap.size a (w.setCell p u) := h.setCell hp u

theorem bcell {W w1 : World} (hb : Below W.heap.size W w1) : (∀ b o, b < W.heap.size → w1.cell? ⟨b, o, none⟩ = W.cell? ⟨b, o, none⟩) ∧ (∀ b o, b < W.heap.size → w1.frozen? ⟨b, o, none⟩ = W.frozen? ⟨b, o, none⟩) :=
  ⟨fun b o h => hb.cell (p := ⟨b, o, none⟩) h, fun b o h => hb.frozen (p := ⟨b, o, none⟩) h⟩

theorem divide_bad (n d : Int) (a : Addr) (w : World) (hs : Sent a w) (h : inB n d = false) :
    Calls Tryd.prog 31 #[.int .i64 n, .int .i64 d] w fun e w' => e = .returned (.tuple #[.nilIface, .iface 101 (.pointer (some a))]) ∧ ∃ m, w' = w.drewN m := by
  rw [inB_not] at h
  unfold Sent at hs
  have hc : n < 0 ∨ (0 ≤ n ∧ 99999 < n) ∨ (0 ≤ n ∧ n ≤ 99999 ∧ d < 1) ∨ (0 ≤ n ∧ n ≤ 99999 ∧ 1 ≤ d ∧ 99999 < d) := by omega
  clear h
  rcases hc with h1 | ⟨h1, h2⟩ | ⟨h1, h2, h3⟩ | ⟨h1, h2, h3, h4⟩
  all_goals
    go_enter Tryd.func31, Tryd.ntmps31
    go_wp2
    go_quiet (fail)
    go_wp2
    go_ret2
    exact ⟨rfl, _, rfl⟩

theorem divide_ok (n d : Int) (w : World) (h : inB n d = true) :
    Calls Tryd.prog 31 #[.int .i64 n, .int .i64 d] w fun e w' => e = .returned (.tuple #[.iface 65 (.agg #[.int .i64 (n / G n d), .int .i64 (d / G n d)]), .nilIface]) ∧ ∃ m, w' = w.drewN m := by
  rw [inB_iff] at h
  obtain ⟨h1, h2, h3, h4⟩ := h
  have hg := G_pos n d h3
  have hg2 := G_le n d h3
  have hz : (G n d == 0) = false := by simp; omega
  go_enter Tryd.func31, Tryd.ntmps31
  go_wp2_with (go_at_call 41; refine (gcd_impl _ _ _ h1 (by omega) (by omega) (by omega)).mono ?_; rintro e w' ⟨rfl, m, rfl⟩)
  go_quiet (fail)
  go_wp2
  go_ret2
  exact ⟨rfl, _, World.drewN_drewN _ _ _⟩
end Go.Proofs.YtebjdfpfbcbhnaaDoor
