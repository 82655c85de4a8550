/-
  OUR OWN TEXT. The specification's drawn loops of four points, five, or six, by contract: whatever the bytes are, points of our own memory are handed back; nothing that was there is written.
-/
import Derived.Test.YthjnfjnnpabenaaGreatDoorDrawPt
import Derived.Test.YthjnfjnnpabenaaGreatDoorEdgeK
import Derived.OwnWalk
import Derived.Deep.RegionHeld3
namespace Go.Proofs.YthjnfjnnpabenaaGreatDoor
open Go.RowKit

def ptCells (l : List P2) : List Value := l.flatMap fun p => [.int .i64 p.1, .int .i64 p.2]
theorem ptCells_len (l : List P2) : (ptCells l).length = l.length * 2 := by
  induction l with
  | nil => rfl
  | cons p l ih => simp only [ptCells, List.flatMap_cons, List.length_append, List.length_cons, List.length_nil] at *; omega
theorem own_lit {W : World} {base g n c : Nat} {cur : Array Value} {l : List P2} (h : W.heap[g]? = some (.cells cur 73 (0, 0))) (hb : base ≤ g) (hs : cur.size = c * 2) (hn : n ≤ c) (hc : c ≤ maxLen) (hl : l.length = n) (e : cur.toList.take (n * 2) = ptCells l) :
    W.ownsRow base 73 2 (.slice (some ⟨g, 0, none⟩) n c) n (ptCells l) :=
  ⟨by rw [ptCells_len, hl], .inr ⟨g, c, cur, rfl, hb, h, hn, hc, hs, e⟩⟩
/-- What a drawn loop is. -/
def Drawn (base r : Nat) (a : Option Addr) (len cap k hi : Nat) (w : World) (e : Ending) (w' : World) : Prop :=
  ∃ (g n c : Nat) (l : List P2) (k' : Nat), e = .returned (.slice (some ⟨g, 0, none⟩) n c) ∧ 3 ≤ n ∧ n ≤ hi ∧ l.length = n ∧ w'.ownsRow base 73 2 (.slice (some ⟨g, 0, none⟩) n c) n (ptCells l) ∧ k' ≤ k ∧ Rd w' r k' a len cap ∧ Only r w w'
set_option maxRecDepth 100000 in
set_option maxHeartbeats 4000000 in
theorem box_any (k : Nat) (a : Option Addr) (len cap r : Nat) (x y u v : Int) (w : World) (hk : k ≤ 900000) (R : Rd w r k a len cap) (x0 : 0 ≤ x) (x1 : x ≤ 20) (y0 : 0 ≤ y) (y1 : y ≤ 20) (u0 : 1 ≤ u) (u1 : u ≤ 20) (v0 : 1 ≤ v) (v1 : v ≤ 20) :
    Calls Tryz.prog 68 #[.pointer (some ⟨r, 0, none⟩), .int .i64 x, .int .i64 y, .int .i64 u, .int .i64 v] w (Drawn w.heap.size r a len cap (k + 1) 6 w) := by
  have hlt := R.lt
  have P := (Only.refl r w).alloc (.cells #[.int .i64 x, .int .i64 y, .int .i64 (x + u), .int .i64 y, .int .i64 (x + u), .int .i64 (y + v), .int .i64 x, .int .i64 (y + v)] 73)
  have B0 := heap_new w (.cells #[.int .i64 x, .int .i64 y, .int .i64 (x + u), .int .i64 y, .int .i64 (x + u), .int .i64 (y + v), .int .i64 x, .int .i64 (y + v)] 73)
  replace R := R.alloc (.cells #[.int .i64 x, .int .i64 y, .int .i64 (x + u), .int .i64 y, .int .i64 (x + u), .int .i64 (y + v), .int .i64 x, .int .i64 (y + v)] 73)
  go_enter Tryz.func68, Tryz.ntmps68
  go_wp2_with fail
  refine (pick_rd 7 k a len cap r _ (by omega) (by omega) R).mono ?_
  clear R
  rintro e w1 ⟨q, rfl, qa, qb, R, O⟩
  replace B0 := keepO O B0 (by omega)
  replace P := P.trans O
  clear O
  have hq : q = 0 ∨ q = 1 ∨ q = 2 ∨ q = 3 ∨ q = 4 ∨ q = 5 ∨ q = 6 := by omega
  have z1 := blk_lt B0
  have c0 : w1.cell? ⟨w.heap.size, 0, none⟩ = some (.int .i64 x) := by simp [World.cell?, B0]
  have c1 : w1.cell? ⟨w.heap.size, 1, none⟩ = some (.int .i64 y) := by simp [World.cell?, B0]
  have c2 : w1.cell? ⟨w.heap.size, 2, none⟩ = some (.int .i64 (x + u)) := by simp [World.cell?, B0]
  have c3 : w1.cell? ⟨w.heap.size, 3, none⟩ = some (.int .i64 y) := by simp [World.cell?, B0]
  have c4 : w1.cell? ⟨w.heap.size, 4, none⟩ = some (.int .i64 (x + u)) := by simp [World.cell?, B0]
  have c5 : w1.cell? ⟨w.heap.size, 5, none⟩ = some (.int .i64 (y + v)) := by simp [World.cell?, B0]
  have c6 : w1.cell? ⟨w.heap.size, 6, none⟩ = some (.int .i64 x) := by simp [World.cell?, B0]
  have c7 : w1.cell? ⟨w.heap.size, 7, none⟩ = some (.int .i64 (y + v)) := by simp [World.cell?, B0]
  have fin : ∃ (g n c : Nat) (l : List P2) (k' : Nat), (Ending.returned (.slice (some ⟨w.heap.size, 0, none⟩) 4 4) : Ending) = .returned (.slice (some ⟨g, 0, none⟩) n c) ∧ 3 ≤ n ∧ n ≤ 6 ∧ l.length = n ∧ w1.ownsRow w.heap.size 73 2 (.slice (some ⟨g, 0, none⟩) n c) n (ptCells l) ∧ k' ≤ k + 1 ∧ Rd w1 r k' a len cap ∧ Only r w w1 :=
    ⟨w.heap.size, 4, 4, [(x, y), (x + u, y), (x + u, y + v), (x, y + v)], k + 1, rfl, by omega, by omega, rfl, own_lit B0 (Nat.le_refl _) rfl (by omega) (by simp [maxLen]) rfl rfl, by omega, R, P⟩
  rcases hq with rfl | rfl | rfl | rfl | rfl | rfl | rfl
  · go_wp2_with fail
    go_ret
    exact ⟨w.heap.size, 3, 4, [(x, y), (x + u, y), (x + u, y + v)], k + 1, rfl, by omega, by omega, rfl, own_lit B0 (Nat.le_refl _) rfl (by omega) (by simp [maxLen]) rfl rfl, by omega, R, P⟩
  · by_cases h1 : 1 < u
    · by_cases h2 : 1 < v
      · go_wp2_with fail
        go_region_held3 (fun w' => w'.cell? ⟨w.heap.size, 0, none⟩ = some (.int .i64 x) ∧ w'.cell? ⟨w.heap.size, 1, none⟩ = some (.int .i64 y) ∧ w'.cell? ⟨w.heap.size, 2, none⟩ = some (.int .i64 (x + u)) ∧ w'.cell? ⟨w.heap.size, 3, none⟩ = some (.int .i64 y) ∧ w'.cell? ⟨w.heap.size, 6, none⟩ = some (.int .i64 x) ∧ w'.cell? ⟨w.heap.size, 7, none⟩ = some (.int .i64 (y + v)))
          (first | go_keep) (fail)
        go_wp2_with fail
        go_ret
        exact ⟨w1.heap.size, 6, 6, [(_, _), (_, _), (_, _), (_, _), (_, _), (_, _)], k + 1, rfl, by omega, by omega, rfl, own_lit (heap_new w1 _) (by omega) rfl (by omega) (by simp [maxLen]) rfl rfl, by omega, (R.alloc _).drew, (P.alloc _).drew⟩
      · go_wp2_with fail
        go_ret
        exact fin
    · go_wp2_with fail
      go_ret
      exact fin
  · by_cases h2 : 1 < v
    · go_wp2_with fail
      go_region_held3 (fun w' => w'.cell? ⟨w.heap.size, 0, none⟩ = some (.int .i64 x) ∧ w'.cell? ⟨w.heap.size, 1, none⟩ = some (.int .i64 y) ∧ w'.cell? ⟨w.heap.size, 2, none⟩ = some (.int .i64 (x + u)) ∧ w'.cell? ⟨w.heap.size, 3, none⟩ = some (.int .i64 y) ∧ w'.cell? ⟨w.heap.size, 6, none⟩ = some (.int .i64 x) ∧ w'.cell? ⟨w.heap.size, 7, none⟩ = some (.int .i64 (y + v)))
        (first | go_keep) (fail)
      go_wp2_with fail
      go_ret
      exact ⟨w1.heap.size, 5, 5, [(_, _), (_, _), (_, _), (_, _), (_, _)], k + 1, rfl, by omega, by omega, rfl, own_lit (heap_new w1 _) (by omega) rfl (by omega) (by simp [maxLen]) rfl rfl, by omega, (R.alloc _).drew, (P.alloc _).drew⟩
    · go_wp2_with fail
      go_ret
      exact fin
  · go_wp2_with fail
    go_region_held3 (fun w' => w'.cell? ⟨w.heap.size, 0, none⟩ = some (.int .i64 x) ∧ w'.cell? ⟨w.heap.size, 1, none⟩ = some (.int .i64 y) ∧ w'.cell? ⟨w.heap.size, 2, none⟩ = some (.int .i64 (x + u)) ∧ w'.cell? ⟨w.heap.size, 3, none⟩ = some (.int .i64 y) ∧ w'.cell? ⟨w.heap.size, 4, none⟩ = some (.int .i64 (x + u)) ∧ w'.cell? ⟨w.heap.size, 5, none⟩ = some (.int .i64 (y + v)) ∧ w'.cell? ⟨w.heap.size, 6, none⟩ = some (.int .i64 x) ∧ w'.cell? ⟨w.heap.size, 7, none⟩ = some (.int .i64 (y + v)))
      (first | go_keep) (fail)
    go_wp2_with fail
    go_ret
    exact ⟨w1.heap.size, 4, 4, [(_, _), (_, _), (_, _), (_, _)], k + 1, rfl, by omega, by omega, rfl, own_lit (heap_new w1 _) (by omega) rfl (by omega) (by simp [maxLen]) rfl rfl, by omega, (R.alloc _).drew, (P.alloc _).drew⟩
  · by_cases h1 : 2 < u
    · by_cases h2 : 2 < v
      · go_wp2_with fail
        go_region_held3 (fun w' => w'.cell? ⟨w.heap.size, 0, none⟩ = some (.int .i64 x) ∧ w'.cell? ⟨w.heap.size, 1, none⟩ = some (.int .i64 y) ∧ w'.cell? ⟨w.heap.size, 2, none⟩ = some (.int .i64 (x + u)) ∧ w'.cell? ⟨w.heap.size, 3, none⟩ = some (.int .i64 y) ∧ w'.cell? ⟨w.heap.size, 4, none⟩ = some (.int .i64 (x + u)) ∧ w'.cell? ⟨w.heap.size, 5, none⟩ = some (.int .i64 (y + v)) ∧ w'.cell? ⟨w.heap.size, 6, none⟩ = some (.int .i64 x) ∧ w'.cell? ⟨w.heap.size, 7, none⟩ = some (.int .i64 (y + v)))
          (first | go_keep) (fail)
        go_wp2_with fail
        go_ret
        exact ⟨w1.heap.size, 6, 6, [(_, _), (_, _), (_, _), (_, _), (_, _), (_, _)], k + 1, rfl, by omega, by omega, rfl, own_lit (heap_new w1 _) (by omega) rfl (by omega) (by simp [maxLen]) rfl rfl, by omega, (R.alloc _).drew, (P.alloc _).drew⟩
      · go_wp2_with fail
        go_ret
        exact fin
    · go_wp2_with fail
      go_ret
      exact fin
  · go_wp2_with fail
    go_ret
    exact fin
  · go_wp2_with fail
    go_ret
    exact fin
end Go.Proofs.YthjnfjnnpabenaaGreatDoor
