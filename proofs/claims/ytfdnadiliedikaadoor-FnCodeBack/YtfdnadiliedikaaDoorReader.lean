/-
  OUR OWN TEXT. The specification's reader of drawn bytes, opened over whatever bytes came in, and what a pick leaves behind.
-/
import Derived.Test.YtfdnadiliedikaaDoorRd
namespace Go.Proofs.YtfdnadiliedikaaDoor
open Go.RowKit

/-- Of what was there block r alone may have turned. -/
structure Only (r : Nat) (w w' : World) : Prop where
  os : w'.os = w.os
  tape : w'.tape = w.tape
  output : w'.output = w.output
  size : w.heap.size ≤ w'.heap.size
  block : ∀ k, k ≠ r → k < w.heap.size → w'.heap[k]? = w.heap[k]?
theorem Only.refl (r : Nat) (w : World) : Only r w w := ⟨rfl, rfl, rfl, Nat.le_refl _, fun _ _ _ => rfl⟩
theorem Only.trans {r : Nat} {a b c : World} (h : Only r a b) (k : Only r b c) : Only r a c :=
  ⟨k.os.trans h.os, k.tape.trans h.tape, k.output.trans h.output, Nat.le_trans h.size k.size, fun i hi hl => (k.block i hi (Nat.lt_of_lt_of_le hl h.size)).trans (h.block i hi hl)⟩
theorem Only.of_below {r : Nat} {a b : World} (h : Below a.heap.size a b) : Only r a b := ⟨h.os, h.tape, h.output, h.size, fun k _ hk => h.block k hk⟩
theorem Only.alloc {r : Nat} {a b : World} (h : Only r a b) (o : Obj) : Only r a (b.alloc o) := h.trans (Only.of_below (bw_alloc (bw_refl _) o))
theorem Only.below {r : Nat} {a b : World} (h : Only r a b) (hr : a.heap.size ≤ r) : Below a.heap.size a b :=
  ⟨h.os, h.tape, h.output, h.size, fun k hk => h.block k (by omega) hk⟩
theorem Only.below' {r B : Nat} {a b : World} (h : Only r a b) (hr : B ≤ r) (hB : B ≤ a.heap.size) : Below B a b :=
  ⟨h.os, h.tape, h.output, h.size, fun k hk => h.block k (by omega) (by omega)⟩
/-- A store into a block that was not there. -/
theorem Only.set {r : Nat} {a b : World} (h : Only r a b) {p : Addr} (hp : p.block = r ∨ a.heap.size ≤ p.block) (u : Value) : Only r a (b.setCell p u) :=
  ⟨h.os, h.tape, h.output, by simpa [World.setCell] using h.size, fun k hk hl => by rw [Below.heap_setCell _ _ _ _ (by omega)]; exact h.block k hk hl⟩
theorem Only.drewN {r : Nat} {a b : World} (h : Only r a b) (n : Nat) : Only r a (b.drewN n) := h.trans ⟨rfl, rfl, rfl, Nat.le_refl _, fun _ _ _ => rfl⟩

/-- A block of two cells, unmarked. -/
theorem blk2 {w : World} {b : Nat} {x y : Value} {t : TypeId} (h : w.heap[b]? = some (.cells #[x, y] t (0, 0))) :
    w.cell? ⟨b, 0, none⟩ = some x ∧ w.cell? ⟨b, 1, none⟩ = some y ∧ w.frozen? ⟨b, 0, none⟩ = false ∧ w.frozen? ⟨b, 1, none⟩ = false := by
  refine ⟨?_, ?_, ?_, ?_⟩ <;> simp [World.cell?, World.frozen?, h]

theorem blk3 {w : World} {b : Nat} {x y z : Value} {t : TypeId} (h : w.heap[b]? = some (.cells #[x, y, z] t (0, 0))) :
    w.cell? ⟨b, 0, none⟩ = some x ∧ w.cell? ⟨b, 1, none⟩ = some y ∧ w.cell? ⟨b, 2, none⟩ = some z := by
  refine ⟨?_, ?_, ?_⟩ <;> simp [World.cell?, h]


/-- Block r is a reader over bytes that lie below it, at place k. -/
def Rd (w : World) (r k : Nat) (a : Option Addr) (len cap : Nat) : Prop :=
  w.heap[r]? = some (.cells #[.slice a len cap, .int .i64 k] 77 (0, 0)) ∧ Bytes w r a len
theorem Bytes.keep {w w' : World} {a : Option Addr} {len r : Nat} (h : Bytes w r a len) (ho : Only r w w') : Bytes w' r a len := by
  rcases h with h | ⟨b, o, z, ha, hr, hb, hz⟩
  · exact .inl h
  · refine .inr ⟨b, o, z, ha, hr, Nat.lt_of_lt_of_le hb ho.size, fun i hi => ?_⟩
    obtain ⟨hc, h1, h2⟩ := hz i hi
    refine ⟨?_, h1, h2⟩
    rw [← hc]
    exact World.cell?_of_block (w := w) (ho.block b (by omega) hb)
theorem Rd.lt {w : World} {r k len cap : Nat} {a : Option Addr} (h : Rd w r k a len cap) : r < w.heap.size := by
  rcases Nat.lt_or_ge r w.heap.size with h' | h'
  · exact h'
  · have := h.1; simp [Array.getElem?_eq_none h'] at this
theorem Rd.below {w w' : World} {r k len cap : Nat} {a : Option Addr} (h : Rd w r k a len cap) (hb : Below w.heap.size w w') : Rd w' r k a len cap :=
  ⟨by rw [hb.block r h.lt]; exact h.1, h.2.keep (Only.of_below hb)⟩
theorem Rd.alloc {w : World} {r k len cap : Nat} {a : Option Addr} (h : Rd w r k a len cap) (o : Obj) : Rd (w.alloc o) r k a len cap := h.below (bw_alloc (bw_refl _) o)

theorem Rd.set {w : World} {r k len cap : Nat} {a : Option Addr} (h : Rd w r k a len cap) {p : Addr} (hp : r < p.block) (u : Value) : Rd (w.setCell p u) r k a len cap := by
  refine ⟨by rw [Below.heap_setCell _ _ _ _ (by omega)]; exact h.1, ?_⟩
  rcases h.2 with h0 | ⟨b, o, z, ha, hr, hb, hz⟩
  · exact .inl h0
  · refine .inr ⟨b, o, z, ha, hr, by simpa [World.setCell] using hb, fun i hi => ?_⟩
    obtain ⟨hc, g1, g2⟩ := hz i hi
    refine ⟨?_, g1, g2⟩
    rw [← hc]
    exact World.cell?_of_block (w := w) (Below.heap_setCell _ _ _ _ (by show b ≠ p.block; omega))

theorem setBlock2 {w : World} {r : Nat} {x y u : Value} {t : TypeId} (h : w.heap[r]? = some (.cells #[x, y] t (0, 0))) : (w.setCell ⟨r, 1, none⟩ u).heap[r]? = some (.cells #[x, u] t (0, 0)) := by
  simp only [World.setCell, Array.getElem?_modify, h, if_true, Option.map_some]
  rfl

/-- A pick at a reader. -/
theorem pick_rd (n : Int) (k : Nat) (a : Option Addr) (len cap r : Nat) (w : World) (hn : 1 ≤ n) (hp : k ≤ 1000000) (h : Rd w r k a len cap) :
    Calls Tryd.prog 44 #[.pointer (some ⟨r, 0, none⟩), .int .i64 n] w fun e w' => ∃ v, e = .returned (.int .i64 v) ∧ 0 ≤ v ∧ v < n ∧ Rd w' r (k + 1) a len cap ∧ Only r w w' := by
  obtain ⟨hb, hB⟩ := h
  obtain ⟨h0, h1, _, hf⟩ := blk2 hb
  refine (pick_any n k a len cap r w hn hp hB h0 h1 hf).mono ?_
  rintro e w' ⟨⟨v, rfl, v0, v1⟩, m, rfl⟩
  have ho : Only r w ((w.setCell ⟨r, 1, none⟩ (.int .i64 ((k : Int) + 1))).drewN m) := (Only.set (Only.refl r w) (.inl rfl) _).drewN m
  refine ⟨v, rfl, v0, v1, ⟨?_, hB.keep ho⟩, ho⟩
  exact setBlock2 hb

/-- A reader is opened over bytes that came in. -/
theorem open_any (a : Option Addr) (len cap : Nat) (w : World) (hl : len ≤ cap) (hm : cap ≤ 9223372036854775807) (ha : len = 0 ∨ ∃ x, a = some x) :
    Calls Tryd.prog 29 #[.slice a len cap] w fun e w' => e = .returned (.pointer (some ⟨w.heap.size, 0, none⟩)) ∧ ∃ len', len' ≤ len ∧ w' = w.alloc (.cells #[.slice a len' cap, .int .i64 0] 77) := by
  by_cases h : len ≤ 2000
  · go_enter Tryd.func29, Tryd.ntmps29
    go_wp2
    go_ret
    exact ⟨rfl, len, Nat.le_refl _, rfl⟩
  · obtain ⟨x, rfl⟩ : ∃ x, a = some x := by rcases ha with h0 | h0; omega; exact h0
    go_enter Tryd.func29, Tryd.ntmps29
    go_wp2
    go_ret
    exact ⟨rfl, 2000, by omega, rfl⟩
/-- A reader is opened over bytes that came in: it stands at their first one. -/
theorem open_rd {a : Option Addr} {len cap : Nat} {zs : List Int} (w0 w : World) (h : IsRow .u8 w0 a len cap zs) (hb : Below w0.heap.size w0 w) :
    Calls Tryd.prog 29 #[.slice a len cap] w fun e w' => ∃ len', e = .returned (.pointer (some ⟨w.heap.size, 0, none⟩)) ∧ Rd w' w.heap.size 0 a len' cap ∧ Below w.heap.size w w' := by
  obtain ⟨h1, h2, h3⟩ := h.shape
  refine (open_any a len cap w h1 h2 h3).mono ?_
  rintro e w' ⟨rfl, len', hl, rfl⟩
  have hb1 : Below w.heap.size w (w.alloc (.cells #[.slice a len' cap, .int .i64 0] 77)) := bw_alloc (bw_refl _) _
  refine ⟨len', rfl, ⟨by show (w.heap.push _)[w.heap.size]? = _; simp, ?_⟩, hb1⟩
  rcases h.bytes len' hl with h0 | ⟨b, o, z, ha, hr, hb', hz⟩
  · exact .inl h0
  · have hbw : b < w.heap.size := Nat.lt_of_lt_of_le hb' hb.size
    refine .inr ⟨b, o, z, ha, hbw, Nat.lt_of_lt_of_le hbw hb1.size, fun i hi => ?_⟩
    obtain ⟨hc, g1, g2⟩ := hz i hi
    refine ⟨?_, g1, g2⟩
    rw [← hc, hb1.cell (p := ⟨b, o + i, none⟩) hbw, hb.cell (p := ⟨b, o + i, none⟩) hb']

/-- A block that was there, and is not the reader's, is there. -/
theorem keepO {r b : Nat} {W w : World} {o : Obj} (O : Only r W w) (h : W.heap[b]? = some o) (hb : b ≠ r) : w.heap[b]? = some o := (O.block b hb (blk_lt h)).trans h
theorem blk4 {w : World} {b : Nat} {x y z u : Value} {t : TypeId} (h : w.heap[b]? = some (.cells #[x, y, z, u] t (0, 0))) :
    w.cell? ⟨b, 0, none⟩ = some x ∧ w.cell? ⟨b, 1, none⟩ = some y ∧ w.cell? ⟨b, 2, none⟩ = some z ∧ w.cell? ⟨b, 3, none⟩ = some u ∧ w.frozen? ⟨b, 0, none⟩ = false ∧ w.frozen? ⟨b, 1, none⟩ = false ∧ w.frozen? ⟨b, 2, none⟩ = false ∧ w.frozen? ⟨b, 3, none⟩ = false := by
  refine ⟨?_, ?_, ?_, ?_, ?_, ?_, ?_, ?_⟩ <;> simp [World.cell?, World.frozen?, h]
theorem setB2 {w : World} {b : Nat} {x0 x1 u0 u1 : Value} {t : TypeId} (h : w.heap[b]? = some (.cells #[x0, x1] t (0, 0))) :
    ((w.setCell ⟨b, 0, none⟩ u0).setCell ⟨b, 1, none⟩ u1).heap[b]? = some (.cells #[u0, u1] t (0, 0)) := by
  simp [World.setCell, Array.getElem?_modify, h]
theorem setB4_01 {w : World} {b : Nat} {x0 x1 x2 x3 u0 u1 : Value} {t : TypeId} (h : w.heap[b]? = some (.cells #[x0, x1, x2, x3] t (0, 0))) :
    ((w.setCell ⟨b, 0, none⟩ u0).setCell ⟨b, 1, none⟩ u1).heap[b]? = some (.cells #[u0, u1, x2, x3] t (0, 0)) := by
  simp [World.setCell, Array.getElem?_modify, h]
theorem setB4_23 {w : World} {b : Nat} {x0 x1 x2 x3 u2 u3 : Value} {t : TypeId} (h : w.heap[b]? = some (.cells #[x0, x1, x2, x3] t (0, 0))) :
    ((w.setCell ⟨b, 2, none⟩ u2).setCell ⟨b, 3, none⟩ u3).heap[b]? = some (.cells #[x0, x1, u2, u3] t (0, 0)) := by
  simp [World.setCell, Array.getElem?_modify, h]
theorem setB4 {w : World} {b : Nat} {x0 x1 x2 x3 u0 u1 u2 u3 : Value} {t : TypeId} (h : w.heap[b]? = some (.cells #[x0, x1, x2, x3] t (0, 0))) :
    ((((w.setCell ⟨b, 0, none⟩ u0).setCell ⟨b, 1, none⟩ u1).setCell ⟨b, 2, none⟩ u2).setCell ⟨b, 3, none⟩ u3).heap[b]? = some (.cells #[u0, u1, u2, u3] t (0, 0)) := by
  simp [World.setCell, Array.getElem?_modify, h]
theorem set_oth {w : World} {b b' i : Nat} {v : Value} {o : Obj} (h : w.heap[b']? = some o) (hne : b' ≠ b) : (w.setCell ⟨b, i, none⟩ v).heap[b']? = some o := by
  rw [Below.heap_setCell _ _ _ _ (by show b' ≠ b; exact hne)]; exact h
theorem Only.drew {r : Nat} {a b : World} (h : Only r a b) : Only r a b.drew := h.trans ⟨rfl, rfl, rfl, Nat.le_refl _, fun _ _ _ => rfl⟩
theorem cellO {r b i : Nat} {W w : World} {v : Value} (O : Only r W w) (h : W.cell? ⟨b, i, none⟩ = some v) (hb : b ≠ r) : w.cell? ⟨b, i, none⟩ = some v := by
  rw [← h]; exact World.cell?_of_block (w := W) (O.block b hb (World.block_lt_of_cell? _ _ h))
theorem cells4O {r b c i j k l : Nat} {W w : World} {x y z u : Value} (O : Only r W w) (h : W.cell? ⟨b, i, none⟩ = some x ∧ W.cell? ⟨b, j, none⟩ = some y ∧ W.cell? ⟨c, k, none⟩ = some z ∧ W.cell? ⟨c, l, none⟩ = some u) (hb : b ≠ r) (hc : c ≠ r) :
    w.cell? ⟨b, i, none⟩ = some x ∧ w.cell? ⟨b, j, none⟩ = some y ∧ w.cell? ⟨c, k, none⟩ = some z ∧ w.cell? ⟨c, l, none⟩ = some u :=
  ⟨cellO O h.1 hb, cellO O h.2.1 hb, cellO O h.2.2.1 hc, cellO O h.2.2.2 hc⟩
theorem mul_small {x y : Int} (h1 : 0 ≤ x) (h2 : x ≤ 2) (h3 : 0 ≤ y) (h4 : y ≤ 2) : 0 ≤ x * y ∧ x * y ≤ 4 := by
  have hx : x = 0 ∨ x = 1 ∨ x = 2 := by omega
  rcases hx with rfl | rfl | rfl <;> omega
theorem Rd.drew {w : World} {r k len cap : Nat} {a : Option Addr} (h : Rd w r k a len cap) : Rd w.drew r k a len cap := h.below (bw_drew (bw_refl _))
theorem wrap_mil (x : Int) (h1 : -1000000 ≤ x) (h2 : x ≤ 1000000) : IntKind.i64.wrap x = x := by
  simp [IntKind.wrap, IntKind.bits, IntKind.signed]
  omega
theorem cellS {b p i m n : Nat} {W : World} {x v0 v1 : Value} (h : W.cell? ⟨b, i, none⟩ = some x) (hb : b ≠ p) : ((W.setCell ⟨p, m, none⟩ v0).setCell ⟨p, n, none⟩ v1).cell? ⟨b, i, none⟩ = some x := by
  rw [← h]
  refine World.cell?_of_block (w := W) ?_
  rw [Below.heap_setCell _ _ _ _ (by show b ≠ p; exact hb), Below.heap_setCell _ _ _ _ (by show b ≠ p; exact hb)]
theorem cells4S {b c p i j k l m n : Nat} {W : World} {x y z u v0 v1 : Value} (h : W.cell? ⟨b, i, none⟩ = some x ∧ W.cell? ⟨b, j, none⟩ = some y ∧ W.cell? ⟨c, k, none⟩ = some z ∧ W.cell? ⟨c, l, none⟩ = some u) (hb : b ≠ p) (hc : c ≠ p) :
    ((W.setCell ⟨p, m, none⟩ v0).setCell ⟨p, n, none⟩ v1).cell? ⟨b, i, none⟩ = some x ∧ ((W.setCell ⟨p, m, none⟩ v0).setCell ⟨p, n, none⟩ v1).cell? ⟨b, j, none⟩ = some y ∧ ((W.setCell ⟨p, m, none⟩ v0).setCell ⟨p, n, none⟩ v1).cell? ⟨c, k, none⟩ = some z ∧ ((W.setCell ⟨p, m, none⟩ v0).setCell ⟨p, n, none⟩ v1).cell? ⟨c, l, none⟩ = some u :=
  ⟨cellS h.1 hb, cellS h.2.1 hb, cellS h.2.2.1 hc, cellS h.2.2.2 hc⟩
theorem heap_new2 (w : World) (o o' o'' : Obj) : (((w.alloc o).alloc o').alloc o'').heap[w.heap.size + 2]? = some o'' := by have := heap_new ((w.alloc o).alloc o') o''; rw [size_new, size_new] at this; exact this
end Go.Proofs.YtfdnadiliedikaaDoor
