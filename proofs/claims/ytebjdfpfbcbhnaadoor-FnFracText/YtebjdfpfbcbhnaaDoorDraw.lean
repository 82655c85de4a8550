/-
  OUR OWN TEXT. The specification's drawn fractions and numbers: whatever the bytes are, what is drawn lies within small bounds; nothing that was there is written.
-/
import Derived.Test.YtebjdfpfbcbhnaaDoorRd
import Derived.Test.YtebjdfpfbcbhnaaDoorSpec
namespace Go.Proofs.YtebjdfpfbcbhnaaDoor
open Go.RowKit

/-- Of what was there block r alone may have turned. -/
structure Only (r : Nat) (w w' : World) : Prop where
  os : w'.os = w.os
  tape : w'.tape = w.tape
  output : w'.output = w.output
  size : w.heap.size ≤ w'.heap.size
  block : ∀ k, k ≠ r → k < w.heap.size → w'.heap[k]? = w.heap[k]?
theorem Only.refl (r : Nat) (w : World) : Only r w w := ⟨rfl, rfl, rfl, Nat.le_refl _, fun _ _ _ => rfl⟩
theorem Only.trans {r : Nat} {a b c : World} (h : Only r a b) (k : Only r b c) : Only r a c :=
  ⟨k.os.trans h.os, k.tape.trans h.tape, k.output.trans h.output, Nat.le_trans h.size k.size, fun i hi hl => (k.block i hi (Nat.lt_of_lt_of_le hl h.size)).trans (h.block i hi hl)⟩
theorem Only.of_below {r : Nat} {a b : World} (h : Below a.heap.size a b) : Only r a b := ⟨h.os, h.tape, h.output, h.size, fun k _ hk => h.block k hk⟩
theorem Only.alloc {r : Nat} {a b : World} (h : Only r a b) (o : Obj) : Only r a (b.alloc o) := h.trans (Only.of_below (bw_alloc (bw_refl _) o))
theorem Only.below {r : Nat} {a b : World} (h : Only r a b) (hr : a.heap.size ≤ r) : Below a.heap.size a b :=
  ⟨h.os, h.tape, h.output, h.size, fun k hk => h.block k (by omega) hk⟩
theorem Only.below' {r B : Nat} {a b : World} (h : Only r a b) (hr : B ≤ r) (hB : B ≤ a.heap.size) : Below B a b :=
  ⟨h.os, h.tape, h.output, h.size, fun k hk => h.block k (by omega) (by omega)⟩
/-- A store into a block that was not there. -/
theorem Only.set {r : Nat} {a b : World} (h : Only r a b) {p : Addr} (hp : p.block = r ∨ a.heap.size ≤ p.block) (u : Value) : Only r a (b.setCell p u) :=
  ⟨h.os, h.tape, h.output, by simpa [World.setCell] using h.size, fun k hk hl => by rw [Below.heap_setCell _ _ _ _ (by omega)]; exact h.block k hk hl⟩
theorem Only.drewN {r : Nat} {a b : World} (h : Only r a b) (n : Nat) : Only r a (b.drewN n) := h.trans ⟨rfl, rfl, rfl, Nat.le_refl _, fun _ _ _ => rfl⟩

/-- A block of two cells, unmarked. -/
theorem blk2 {w : World} {b : Nat} {x y : Value} {t : TypeId} (h : w.heap[b]? = some (.cells #[x, y] t (0, 0))) :
    w.cell? ⟨b, 0, none⟩ = some x ∧ w.cell? ⟨b, 1, none⟩ = some y ∧ w.frozen? ⟨b, 0, none⟩ = false ∧ w.frozen? ⟨b, 1, none⟩ = false := by
  refine ⟨?_, ?_, ?_, ?_⟩ <;> simp [World.cell?, World.frozen?, h]

theorem blk3 {w : World} {b : Nat} {x y z : Value} {t : TypeId} (h : w.heap[b]? = some (.cells #[x, y, z] t (0, 0))) :
    w.cell? ⟨b, 0, none⟩ = some x ∧ w.cell? ⟨b, 1, none⟩ = some y ∧ w.cell? ⟨b, 2, none⟩ = some z := by
  refine ⟨?_, ?_, ?_⟩ <;> simp [World.cell?, h]
theorem heap_new (w : World) (o : Obj) : (w.alloc o).heap[w.heap.size]? = some o := by show (w.heap.push _)[w.heap.size]? = _; simp
theorem heap_old (w : World) (o : Obj) {k : Nat} (h : k < w.heap.size) : (w.alloc o).heap[k]? = w.heap[k]? := Below.heap_alloc w o k h
theorem size_new (w : World) (o : Obj) : (w.alloc o).heap.size = w.heap.size + 1 := by simp

theorem heap_new1 (w : World) (o o' : Obj) : ((w.alloc o).alloc o').heap[w.heap.size + 1]? = some o' := by have := heap_new (w.alloc o) o'; rw [size_new] at this; exact this

/-- Block r is a reader over bytes that lie below it, at place k. -/
def Rd (w : World) (r k : Nat) (a : Option Addr) (len cap : Nat) : Prop :=
  w.heap[r]? = some (.cells #[.slice a len cap, .int .i64 k] 63 (0, 0)) ∧ Bytes w r a len
theorem Bytes.keep {w w' : World} {a : Option Addr} {len r : Nat} (h : Bytes w r a len) (ho : Only r w w') : Bytes w' r a len := by
  rcases h with h | ⟨b, o, z, ha, hr, hb, hz⟩
  · exact .inl h
  · refine .inr ⟨b, o, z, ha, hr, Nat.lt_of_lt_of_le hb ho.size, fun i hi => ?_⟩
    obtain ⟨hc, h1, h2⟩ := hz i hi
    refine ⟨?_, h1, h2⟩
    rw [← hc]
    exact World.cell?_of_block (w := w) (ho.block b (by omega) hb)
theorem Rd.lt {w : World} {r k len cap : Nat} {a : Option Addr} (h : Rd w r k a len cap) : r < w.heap.size := by
  rcases Nat.lt_or_ge r w.heap.size with h' | h'
  · exact h'
  · have := h.1; simp [Array.getElem?_eq_none h'] at this
theorem Rd.below {w w' : World} {r k len cap : Nat} {a : Option Addr} (h : Rd w r k a len cap) (hb : Below w.heap.size w w') : Rd w' r k a len cap :=
  ⟨by rw [hb.block r h.lt]; exact h.1, h.2.keep (Only.of_below hb)⟩
theorem Rd.alloc {w : World} {r k len cap : Nat} {a : Option Addr} (h : Rd w r k a len cap) (o : Obj) : Rd (w.alloc o) r k a len cap := h.below (bw_alloc (bw_refl _) o)

theorem Rd.set {w : World} {r k len cap : Nat} {a : Option Addr} (h : Rd w r k a len cap) {p : Addr} (hp : r < p.block) (u : Value) : Rd (w.setCell p u) r k a len cap := by
  refine ⟨by rw [Below.heap_setCell _ _ _ _ (by omega)]; exact h.1, ?_⟩
  rcases h.2 with h0 | ⟨b, o, z, ha, hr, hb, hz⟩
  · exact .inl h0
  · refine .inr ⟨b, o, z, ha, hr, by simpa [World.setCell] using hb, fun i hi => ?_⟩
    obtain ⟨hc, g1, g2⟩ := hz i hi
    refine ⟨?_, g1, g2⟩
    rw [← hc]
    exact World.cell?_of_block (w := w) (Below.heap_setCell _ _ _ _ (by show b ≠ p.block; omega))

theorem setBlock2 {w : World} {r : Nat} {x y u : Value} {t : TypeId} (h : w.heap[r]? = some (.cells #[x, y] t (0, 0))) : (w.setCell ⟨r, 1, none⟩ u).heap[r]? = some (.cells #[x, u] t (0, 0)) := by
  simp only [World.setCell, Array.getElem?_modify, h, if_true, Option.map_some]
  rfl

/-- A pick at a reader. -/
theorem pick_rd (n : Int) (k : Nat) (a : Option Addr) (len cap r : Nat) (w : World) (hn : 1 ≤ n) (hp : k ≤ 1000000) (h : Rd w r k a len cap) :
    Calls Tryd.prog 28 #[.pointer (some ⟨r, 0, none⟩), .int .i64 n] w fun e w' => ∃ v, e = .returned (.int .i64 v) ∧ 0 ≤ v ∧ v < n ∧ Rd w' r (k + 1) a len cap ∧ Only r w w' := by
  obtain ⟨hb, hB⟩ := h
  obtain ⟨h0, h1, _, hf⟩ := blk2 hb
  refine (pick_any n k a len cap r w hn hp hB h0 h1 hf).mono ?_
  rintro e w' ⟨⟨v, rfl, v0, v1⟩, m, rfl⟩
  have ho : Only r w ((w.setCell ⟨r, 1, none⟩ (.int .i64 ((k : Int) + 1))).drewN m) := (Only.set (Only.refl r w) (.inl rfl) _).drewN m
  refine ⟨v, rfl, v0, v1, ⟨?_, hB.keep ho⟩, ho⟩
  exact setBlock2 hb

/-- A reader is opened over bytes that came in. -/
theorem open_any (a : Option Addr) (len cap : Nat) (w : World) (hl : len ≤ cap) (hm : cap ≤ 9223372036854775807) (ha : len = 0 ∨ ∃ x, a = some x) :
    Calls Tryd.prog 27 #[.slice a len cap] w fun e w' => e = .returned (.pointer (some ⟨w.heap.size, 0, none⟩)) ∧ ∃ len', len' ≤ len ∧ w' = w.alloc (.cells #[.slice a len' cap, .int .i64 0] 63) := by
  by_cases h : len ≤ 2000
  · go_enter Tryd.func27, Tryd.ntmps27
    go_wp2
    go_ret
    exact ⟨rfl, len, Nat.le_refl _, rfl⟩
  · obtain ⟨x, rfl⟩ : ∃ x, a = some x := by rcases ha with h0 | h0; omega; exact h0
    go_enter Tryd.func27, Tryd.ntmps27
    go_wp2
    go_ret
    exact ⟨rfl, 2000, by omega, rfl⟩
/-- A reader is opened over bytes that came in: it stands at their first one. -/
theorem open_rd {a : Option Addr} {len cap : Nat} {zs : List Int} (w0 w : World) (h : IsRow .u8 w0 a len cap zs) (hb : Below w0.heap.size w0 w) :
    Calls Tryd.prog 27 #[.slice a len cap] w fun e w' => ∃ len', e = .returned (.pointer (some ⟨w.heap.size, 0, none⟩)) ∧ Rd w' w.heap.size 0 a len' cap ∧ Below w.heap.size w w' := by
  obtain ⟨h1, h2, h3⟩ := h.shape
  refine (open_any a len cap w h1 h2 h3).mono ?_
  rintro e w' ⟨rfl, len', hl, rfl⟩
  have hb1 : Below w.heap.size w (w.alloc (.cells #[.slice a len' cap, .int .i64 0] 63)) := bw_alloc (bw_refl _) _
  refine ⟨len', rfl, ⟨by show (w.heap.push _)[w.heap.size]? = _; simp, ?_⟩, hb1⟩
  rcases h.bytes len' hl with h0 | ⟨b, o, z, ha, hr, hb', hz⟩
  · exact .inl h0
  · have hbw : b < w.heap.size := Nat.lt_of_lt_of_le hb' hb.size
    refine .inr ⟨b, o, z, ha, hbw, Nat.lt_of_lt_of_le hbw hb1.size, fun i hi => ?_⟩
    obtain ⟨hc, g1, g2⟩ := hz i hi
    refine ⟨?_, g1, g2⟩
    rw [← hc, hb1.cell (p := ⟨b, o + i, none⟩) hbw, hb.cell (p := ⟨b, o + i, none⟩) hb']

set_option maxHeartbeats 1000000 in
theorem l71Frac_any (k : Nat) (a : Option Addr) (len cap r : Nat) (w : World) (hk : k ≤ 900000) (h : Rd w r k a len cap) :
    Calls Tryd.prog 34 #[.pointer (some ⟨r, 0, none⟩)] w fun e w' => ∃ (n d : Int) (k' : Nat), e = .returned (.agg #[.int .i64 n, .int .i64 d]) ∧ (-1 ≤ n ∧ n ≤ 100000 ∧ 0 ≤ d ∧ d ≤ 100) ∧ k' ≤ k + 4 ∧ Rd w' r k' a len cap ∧ Only r w w' := by
  have hlt := h.lt
  have O0 : Only r w (w.alloc (.cells #[.int .i64 0, .int .i64 0] 26)) := (Only.refl r w).alloc _
  have B0 : (w.alloc (.cells #[.int .i64 0, .int .i64 0] 26)).heap[w.heap.size]? = some (.cells #[.int .i64 0, .int .i64 0] 26 (0, 0)) := by show (w.heap.push _)[w.heap.size]? = _; simp
  have S0 : w.heap.size < (w.alloc (.cells #[.int .i64 0, .int .i64 0] 26)).heap.size := by simp
  go_enter Tryd.func34, Tryd.ntmps34
  go_wp2_with fail
  refine (pick_rd 60 k a len cap r _ (by omega) (by omega) (h.alloc _)).mono ?_
  rintro e w1 ⟨v1, rfl, v1a, v1b, R1, O1⟩
  have B1 := (O1.block _ (by omega) S0).trans B0
  have S1 := Nat.lt_of_lt_of_le S0 O1.size
  have P1 := O0.trans O1
  clear O0 B0 S0 O1 h
  go_wp2_with fail
  refine (pick_rd 20 (k + 1) a len cap r _ (by omega) (by omega) R1).mono ?_
  rintro e w2 ⟨v2, rfl, v2a, v2b, R2, O2⟩
  have B2 := (O2.block _ (by omega) S1).trans B1
  have S2 := Nat.lt_of_lt_of_le S1 O2.size
  have P2 := P1.trans O2
  clear P1 B1 S1 O2 R1
  go_wp2_with fail
  refine (l1Of_any v1 (1 + v2) _ (by omega) (by omega) (by omega) (by omega)).mono ?_
  rintro e w3 ⟨rfl, hb3⟩
  have B3 := (hb3.block _ S2).trans B2
  have S3 := Nat.lt_of_lt_of_le S2 hb3.size
  have R3 := R2.below hb3
  have P3 := P2.trans (Only.of_below hb3)
  have g1 := G_pos v1 (1 + v2) (by omega)
  have n1 : 0 ≤ v1 / G v1 (1 + v2) := Int.ediv_nonneg (by omega) (by omega)
  have n2 : v1 / G v1 (1 + v2) ≤ v1 := Int.ediv_le_self _ (by omega)
  have d1 : 0 ≤ (1 + v2) / G v1 (1 + v2) := Int.ediv_nonneg (by omega) (by omega)
  have d2 : (1 + v2) / G v1 (1 + v2) ≤ 1 + v2 := Int.ediv_le_self _ (by omega)
  clear hb3 B2 S2 P2 R2
  generalize v1 / G v1 (1 + v2) = N at n1 n2 ⊢
  generalize (1 + v2) / G v1 (1 + v2) = D at d1 d2 ⊢
  go_wp2_with fail
  refine (pick_rd 12 (k + 1 + 1) a len cap r _ (by omega) (by omega) (R3.alloc _)).mono ?_
  rintro e w4 ⟨v3, rfl, v3a, v3b, R4, O4⟩
  have hr3 := R3.lt
  have B4 := (O4.block w.heap.size (by omega) (by rw [size_new]; omega)).trans ((heap_old _ _ S3).trans B3)
  have F4 := (O4.block w3.heap.size (by omega) (by rw [size_new]; omega)).trans (heap_new _ _)
  have P4 := (P3.alloc _).trans O4
  have S4 : w3.heap.size < w4.heap.size := by have := O4.size; rw [size_new] at this; omega
  clear O4 R3 P3 B3
  have hv3 : v3 = 0 ∨ v3 = 1 ∨ ((v3 == 0) = false ∧ (v3 == 1) = false) := by simp; omega
  rcases hv3 with hv | hv | ⟨hv, hv'⟩
  · subst hv
    go_wp2_with fail
    refine (pick_rd 3 (k + 1 + 1 + 1) a len cap r _ (by omega) (by omega) (R4.alloc _)).mono ?_
    rintro e w5 ⟨v4, rfl, v4a, v4b, R5, O5⟩
    have A5 := (O5.block w4.heap.size (by omega) (by rw [size_new]; omega)).trans (heap_new _ _)
    have B5 := (O5.block w.heap.size (by omega) (by rw [size_new]; omega)).trans ((heap_old _ _ (by omega)).trans B4)
    have F5 := (O5.block w3.heap.size (by omega) (by rw [size_new]; omega)).trans ((heap_old _ _ (by omega)).trans F4)
    have P5 := (P4.alloc _).trans O5
    clear O5 R4 P4 B4 F4
    obtain ⟨hb0, hb1, hg0, hg1⟩ := blk2 B5
    obtain ⟨hf0, hf1, hh0, hh1⟩ := blk2 F5
    obtain ⟨ha0, ha1, ha2⟩ := blk3 A5
    have hne : w.heap.size ≠ w3.heap.size := by omega
    clear A5
    have hc : v4 = 0 ∨ v4 = 1 ∨ v4 = 2 := by omega
    rcases hc with hc | hc | hc
    · subst hc
      go_wp2_with fail
      exact bodyPost_ret (v := .agg #[.int .i64 (-1), .int .i64 (D)]) (by simp [results, Tryd.results34, go_sem, hb0, hb1]) rfl ⟨-1, D, k + 1 + 1 + 1 + 1, rfl, by omega, by omega, ((R5.set (by show r < w3.heap.size; omega) _).set hlt _).set hlt _, ((P5.set (.inr (by show w.heap.size ≤ w3.heap.size; omega)) _).set (.inr (Nat.le_refl _)) _).set (.inr (Nat.le_refl _)) _⟩
    · subst hc
      go_wp2_with fail
      exact bodyPost_ret (v := .agg #[.int .i64 (99999), .int .i64 (D)]) (by simp [results, Tryd.results34, go_sem, hb0, hb1]) rfl ⟨99999, D, k + 1 + 1 + 1 + 1, rfl, by omega, by omega, ((R5.set (by show r < w3.heap.size; omega) _).set hlt _).set hlt _, ((P5.set (.inr (by show w.heap.size ≤ w3.heap.size; omega)) _).set (.inr (Nat.le_refl _)) _).set (.inr (Nat.le_refl _)) _⟩
    · subst hc
      go_wp2_with fail
      exact bodyPost_ret (v := .agg #[.int .i64 (100000), .int .i64 (D)]) (by simp [results, Tryd.results34, go_sem, hb0, hb1]) rfl ⟨100000, D, k + 1 + 1 + 1 + 1, rfl, by omega, by omega, ((R5.set (by show r < w3.heap.size; omega) _).set hlt _).set hlt _, ((P5.set (.inr (by show w.heap.size ≤ w3.heap.size; omega)) _).set (.inr (Nat.le_refl _)) _).set (.inr (Nat.le_refl _)) _⟩
  · subst hv
    go_wp2_with fail
    refine (pick_rd 3 (k + 1 + 1 + 1) a len cap r _ (by omega) (by omega) (R4.alloc _)).mono ?_
    rintro e w5 ⟨v4, rfl, v4a, v4b, R5, O5⟩
    have A5 := (O5.block w4.heap.size (by omega) (by rw [size_new]; omega)).trans (heap_new _ _)
    have B5 := (O5.block w.heap.size (by omega) (by rw [size_new]; omega)).trans ((heap_old _ _ (by omega)).trans B4)
    have F5 := (O5.block w3.heap.size (by omega) (by rw [size_new]; omega)).trans ((heap_old _ _ (by omega)).trans F4)
    have P5 := (P4.alloc _).trans O5
    clear O5 R4 P4 B4 F4
    obtain ⟨hb0, hb1, hg0, hg1⟩ := blk2 B5
    obtain ⟨hf0, hf1, hh0, hh1⟩ := blk2 F5
    obtain ⟨ha0, ha1, ha2⟩ := blk3 A5
    have hne : w.heap.size ≠ w3.heap.size := by omega
    clear A5
    have hc : v4 = 0 ∨ v4 = 1 ∨ v4 = 2 := by omega
    rcases hc with hc | hc | hc
    · subst hc
      go_wp2_with fail
      exact bodyPost_ret (v := .agg #[.int .i64 (N), .int .i64 (0)]) (by simp [results, Tryd.results34, go_sem, hb0, hb1]) rfl ⟨N, 0, k + 1 + 1 + 1 + 1, rfl, by omega, by omega, ((R5.set (by show r < w3.heap.size; omega) _).set hlt _).set hlt _, ((P5.set (.inr (by show w.heap.size ≤ w3.heap.size; omega)) _).set (.inr (Nat.le_refl _)) _).set (.inr (Nat.le_refl _)) _⟩
    · subst hc
      go_wp2_with fail
      exact bodyPost_ret (v := .agg #[.int .i64 (N), .int .i64 (2)]) (by simp [results, Tryd.results34, go_sem, hb0, hb1]) rfl ⟨N, 2, k + 1 + 1 + 1 + 1, rfl, by omega, by omega, ((R5.set (by show r < w3.heap.size; omega) _).set hlt _).set hlt _, ((P5.set (.inr (by show w.heap.size ≤ w3.heap.size; omega)) _).set (.inr (Nat.le_refl _)) _).set (.inr (Nat.le_refl _)) _⟩
    · subst hc
      go_wp2_with fail
      exact bodyPost_ret (v := .agg #[.int .i64 (N), .int .i64 (4)]) (by simp [results, Tryd.results34, go_sem, hb0, hb1]) rfl ⟨N, 4, k + 1 + 1 + 1 + 1, rfl, by omega, by omega, ((R5.set (by show r < w3.heap.size; omega) _).set hlt _).set hlt _, ((P5.set (.inr (by show w.heap.size ≤ w3.heap.size; omega)) _).set (.inr (Nat.le_refl _)) _).set (.inr (Nat.le_refl _)) _⟩
  · obtain ⟨hb0, hb1, hg0, hg1⟩ := blk2 B4
    obtain ⟨hf0, hf1, hh0, hh1⟩ := blk2 F4
    have hne : w.heap.size ≠ w3.heap.size := by omega
    go_wp2_with fail
    exact bodyPost_ret (v := .agg #[.int .i64 N, .int .i64 D]) (by simp [results, Tryd.results34, go_sem, hb0, hb1]) rfl ⟨N, D, k + 1 + 1 + 1, rfl, by omega, by omega, (R4.set hlt _).set hlt _, (P4.set (.inr (Nat.le_refl _)) _).set (.inr (Nat.le_refl _)) _⟩
end Go.Proofs.YtebjdfpfbcbhnaaDoor
