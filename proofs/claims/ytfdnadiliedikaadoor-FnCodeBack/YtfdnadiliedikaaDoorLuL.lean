/-
  OUR OWN TEXT. Points begun elsewhere, the other way about, on the other side, exchanged: the laws' own helpers, by contract.
-/
import Derived.Test.YtfdnadiliedikaaDoorDrawL
import Derived.Test.YtfdnadiliedikaaDoorLoopT
import Derived.Test.YtfdnadiliedikaaDoorLu
namespace Go.Proofs.YtfdnadiliedikaaDoor
open Go.RowKit

/-- Points that were handed back, in memory of their own. -/
def AnsP (w : World) (m : List P2) (e : Ending) (w' : World) : Prop :=
  ∃ g' c', e = .returned (.slice (some ⟨g', 0, none⟩) m.length c') ∧ PtBlk w' g' c' m m.length ∧ Below w.heap.size w w'
theorem blk_cell {W : World} {g c n : Nat} {l : List P2} (h : PtBlk W g c l n) (hl : l.length = n) : ∀ (i : Nat) u, (ptCells l)[i]? = some u → W.cell? ⟨g, i, none⟩ = some u := by
  obtain ⟨cur, hg, hs, hc⟩ := h
  intro i u hu
  have hi : i < n * 2 := by
    rcases Nat.lt_or_ge i (n * 2) with h | h
    · exact h
    · rw [List.getElem?_eq_none (by rw [ptCells_len]; omega)] at hu; cases hu
  rw [row_cell hg]
  obtain ⟨c0, c1⟩ := hc (i / 2) (by omega)
  obtain ⟨a0, a1⟩ := ptCells_at l (i / 2) (by omega)
  rcases Nat.mod_two_eq_zero_or_one i with e | e
  · have e' : i = i / 2 * 2 := by omega
    rw [e', a0] at hu; rw [e', c0]; exact hu
  · have e' : i = i / 2 * 2 + 1 := by omega
    rw [e', a1] at hu; rw [e', c1]; exact hu
theorem ptCells_drop (l : List P2) (k : Nat) : ptCells (l.drop k) = (ptCells l).drop (k * 2) := by
  induction l generalizing k with
  | nil => simp [ptCells]
  | cons p l ih =>
    cases k with
    | zero => simp
    | succ k =>
      have e : ptCells (p :: l) = .int .i64 p.1 :: .int .i64 p.2 :: ptCells l := rfl
      have e1 : (k + 1) * 2 = k * 2 + 1 + 1 := by omega
      rw [List.drop_succ_cons, ih, e, e1]; rfl
theorem ptCells_take (l : List P2) (k : Nat) : ptCells (l.take k) = (ptCells l).take (k * 2) := by
  induction l generalizing k with
  | nil => simp [ptCells]
  | cons p l ih =>
    cases k with
    | zero => simp [ptCells]
    | succ k =>
      have e : ptCells (p :: l) = .int .i64 p.1 :: .int .i64 p.2 :: ptCells l := rfl
      have e1 : (k + 1) * 2 = k * 2 + 1 + 1 := by omega
      rw [List.take_succ_cons, e, e1, List.take_succ_cons, List.take_succ_cons, ← ih]; rfl
theorem of_take {α : Type} {l : List α} {m j : Nat} {u : α} (h : (l.take m)[j]? = some u) : l[j]? = some u := by
  rw [List.getElem?_take] at h; split at h
  · exact h
  · cases h
theorem ptCells_append (a b : List P2) : ptCells (a ++ b) = ptCells a ++ ptCells b := by simp [ptCells]
theorem ptCells_one (l : List P2) : ∀ u ∈ ptCells l, u.oneCell' = true := by
  intro u hu
  simp only [ptCells, List.mem_flatMap, List.mem_cons, List.not_mem_nil, or_false] at hu
  obtain ⟨p, _, rfl | rfl⟩ := hu <;> rfl
theorem news_at {W : World} {g c n k : Nat} {l m : List P2} (h : PtBlk W g c l n) (hl : l.length = n) (hm : ∀ (j : Nat) u, (ptCells m)[j]? = some u → (ptCells l)[k * 2 + j]? = some u) :
    ∀ j u, (ptCells m)[j]? = some u → W.cell? ((⟨g, k * 2, none⟩ : Addr).add j) = some u := fun j u hu => by
  have hadd : (⟨g, k * 2, none⟩ : Addr).add j = ⟨g, k * 2 + j, none⟩ := by unfold Addr.add; split <;> simp_all
  rw [hadd]; exact blk_cell h hl _ _ (hm j u hu)
theorem news_0 {W : World} {g c n : Nat} {l m : List P2} (h : PtBlk W g c l n) (hl : l.length = n) (hm : ∀ (j : Nat) u, (ptCells m)[j]? = some u → (ptCells l)[j]? = some u) :
    ∀ j u, (ptCells m)[j]? = some u → W.cell? ((⟨g, 0, none⟩ : Addr).add j) = some u := fun j u hu => by
  have hadd : (⟨g, 0, none⟩ : Addr).add j = ⟨g, j, none⟩ := by unfold Addr.add; split <;> simp_all
  rw [hadd]; exact blk_cell h hl _ _ (hm j u hu)
theorem blk_grown {W W' : World} {g c n : Nat} {l : List P2} {row : Option Nat} (h : PtBlk W g c l n) (hg : W.grownBy W' row) (hne : some g ≠ row) : PtBlk W' g c l n := by
  have hlt := h.lt
  obtain ⟨cur, h, hs⟩ := h
  exact ⟨cur, (hg.block g hlt hne).trans h, hs⟩
/-- Append, something being there behind it, as a step of a region that draws. -/
theorem step_append_more {P : Program} {w : World} {ops : Array Oper} {o : Oper} {a : Act} {K : Act → World → Prop} {Q : Exit → Act → World → Prop} {E : Prop} (hgd : o.guard = none) (s x : Operand) (t : TypeId)
    (ho : o.op = .call { callee := .builtin .append, args := #[s, x], argTypes := #[t, t] })
    (base : Nat) (e : TypeId) (i : TypeInfo) (z : Value) (size bytes : Nat) (ht : P.underlying t = some (.slice e)) (hi : P.info? e = some i) (hz : i.zero = some z)
    (hsize : i.size = size) (hby : i.bytes = bytes) (hzs : z.cells.size = size) (hsz : 0 < size)
    (v : Value) (n : Nat) (xs : List Value) (hs : a.eval s = v) (hown : w.ownsRow base e size v n xs)
    (ad : Addr) (m c : Nat) (news : List Value) (hx : a.eval x = .slice (some ad) m c) (hl : news.length = m * size) (hnews : ∀ j u, news[j]? = some u → w.cell? (ad.add j) = some u) (h1 : ∀ u ∈ news, u.oneCell' = true)
    (hm : 0 < n + m) (h63 : n + m ≤ maxLen) (hbytes : (n + m) * bytes ≤ 140737488355328) (hbase : base ≤ w.heap.size)
    (h : ∀ g cap w', w'.ownsRow base e size (.slice (some ⟨g, 0, none⟩) (n + m) cap) (n + m) (xs ++ news) → w.grownBy w' v.ownBlock → base ≤ g → K (a.put o.dst (.slice (some ⟨g, 0, none⟩) (n + m) cap)) w') :
    if Region.wanted o (yielded ops a.tmps) = true then Oper.wp P o a w K Q else E := by
  have hw : Region.wanted o (yielded ops a.tmps) = true := by simp [Region.wanted, hgd]
  rw [if_pos hw]
  obtain ⟨v', w', hr, h2, h3, _⟩ := run_append_own (P := P) w base t o.type e i z size bytes ht hi hz hsize hby hzs hsz v n xs hown ad m c news hl hnews h1 h63 hbytes hbase
  obtain ⟨g, cap, rfl, hb, _⟩ := h2.form hm
  unfold Oper.wp execOp
  simp only [ho, resolve, invoke, builtin, Sem.run_bind, Sem.run_pure, Result.andThen_ok, List.map_toArray, List.map_cons, List.map_nil, hs, hx, hr]
  exact h g cap w' h2 h3 hb
end Go.Proofs.YtfdnadiliedikaaDoor
