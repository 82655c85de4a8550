/-
  OUR OWN TEXT. What hands the iterator over the edges back; that it stops.
-/
import Derived.Test.YthjnfjnnpabenaaGreatDoorEdges
namespace Go.Proofs.YthjnfjnnpabenaaGreatDoor
open Go.RowKit Go.Shelf
attribute [local go_sem] Oper.semAt_some

set_option maxHeartbeats 1000000 in
theorem edges_in (n : Nat) (a : Option Addr) (len cap : Nat) (w : World) :
    CallsIn Fence.wide n Tryz.prog 57 #[.slice a len cap] w fun e w' => e = .returned (.func (.func 76) #[] #[.pointer (some ⟨w.heap.size, 0, none⟩)]) ∧ w' = w.alloc (.cells #[.slice a len cap] 22) := by
  refine callsIn_of_wp Tryz.func57 rfl trivial ?_ rfl
  simp only [Tryz.ntmps57, List.size_toArray, List.length_cons, List.length_nil, Nat.reduceAdd, Nat.reduceSub, Array.replicate_succ, Array.replicate_zero, List.push_toArray, List.append_toArray, List.nil_append, List.cons_append]
  gi_wp2
  go_ret
  exact ⟨rfl, rfl⟩
/-- What comes up: a place, and the edge there. -/
def encE (pts : List P2) (x : Fin pts.length) : Array Value := #[.int .i64 (x.1 : Int), .agg #[.int .i64 (ptAt pts x.1).1, .int .i64 (ptAt pts x.1).2, .int .i64 (ptAt pts (nxt pts x.1)).1, .int .i64 (ptAt pts (nxt pts x.1)).2]]
theorem Pts.below {n₀ : Nat} {W W' : World} {a : Option Addr} {len : Nat} {l : List P2} (h : Pts n₀ W a len l) (k : Below n₀ W W') : Pts n₀ W' a len l := by
  refine ⟨h.1, h.2.imp id ?_⟩
  rintro ⟨b, off, rfl, hb, hc⟩
  exact ⟨b, off, rfl, hb, fun j hj => ⟨(k.cell (p := ⟨b, off + j * 2, none⟩) hb).trans (hc j hj).1, (k.cell (p := ⟨b, off + j * 2 + 1, none⟩) hb).trans (hc j hj).2⟩⟩
theorem Pts.grow {n₀ n₁ : Nat} {W : World} {a : Option Addr} {len : Nat} {l : List P2} (h : Pts n₀ W a len l) (k : n₀ ≤ n₁) : Pts n₁ W a len l :=
  ⟨h.1, h.2.imp id fun ⟨b, off, e, hb, hc⟩ => ⟨b, off, e, by omega, hc⟩⟩
theorem edges_stops (n : Nat) (hn : 1 ≤ n) (B n₀ : Nat) (a : Option Addr) (len cap : Nat) (pts : List P2) (w : World) (hB : B < w.heap.size) (hn₀ : n₀ ≤ w.heap.size) (hlen : len ≤ 1048576)
    (hc : w.cell? ⟨B, 0, none⟩ = some (.slice a len cap)) (hP : Pts n₀ w a len pts) :
    SeqStopsK Fence.wide n Tryz.prog 76 #[.pointer (some ⟨B, 0, none⟩)] (encE pts) (KB n₀ B) (fun ys => ys = List.finRange pts.length) (fun pre => ∃ k, k ≤ pts.length ∧ pre = upto pts.length k) pts.length w := by
  intro l J Jx W hW hJ hJx hY h0
  have hcW := (hW.cell (p := ⟨B, 0, none⟩) hB).trans hc
  obtain ⟨hl, hP2⟩ := hP.below (hW.mono hn₀)
  rcases hP2 with rfl | ⟨b, off, rfl, hb, hcs⟩
  · have : pts = [] := List.eq_nil_of_length_eq_zero hl
    exact edges0_in n l B cap a pts this J Jx W hcW h0
  · exact edges1_in n hn l B n₀ b off cap len pts hl hlen hb J Jx hY W hcW (by have := hW.size; omega) hcs (fun pre A B' h g => hJ pre A B' none h g (fun r e => by cases e)) h0
end Go.Proofs.YthjnfjnnpabenaaGreatDoor
