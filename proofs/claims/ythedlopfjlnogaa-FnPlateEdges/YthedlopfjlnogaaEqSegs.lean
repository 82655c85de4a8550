/-
  OUR OWN TEXT. Rows of segments: what they hold; that the exact laws find two of them the same.
-/
import Derived.Test.YthedlopfjlnogaaMarks
import Derived.Test.YthedlopfjlnogaaSOk
namespace Go.Proofs.Ythedlopfjlnogaa
open Go.RowKit Go.Sort

def sAt (ss : List (P2 × P2)) (j : Nat) : P2 × P2 := ss[j]?.getD ((0, 0), (0, 0))
/-- A row of segments, its cells. -/
def SRow (W : World) (g : Nat) (ss : List (P2 × P2)) : Prop := ∀ j, j < ss.length → W.cell? ⟨g, j * 4, none⟩ = some (.int .i64 (sAt ss j).1.1) ∧ W.cell? ⟨g, j * 4 + 1, none⟩ = some (.int .i64 (sAt ss j).1.2) ∧ W.cell? ⟨g, j * 4 + 2, none⟩ = some (.int .i64 (sAt ss j).2.1) ∧ W.cell? ⟨g, j * 4 + 3, none⟩ = some (.int .i64 (sAt ss j).2.2)
theorem SRow.below {W W' : World} {g : Nat} {ss : List (P2 × P2)} (h : SRow W g ss) (k : Below W.heap.size W W') (hg : g < W.heap.size) : SRow W' g ss := fun j hj => by
  obtain ⟨c0, c1, c2, c3⟩ := h j hj
  exact ⟨(k.cell (p := ⟨g, j * 4, none⟩) hg).trans c0, (k.cell (p := ⟨g, j * 4 + 1, none⟩) hg).trans c1, (k.cell (p := ⟨g, j * 4 + 2, none⟩) hg).trans c2, (k.cell (p := ⟨g, j * 4 + 3, none⟩) hg).trans c3⟩
theorem SRow.only {W W' : World} {g r : Nat} {ss : List (P2 × P2)} (h : SRow W g ss) (O : Only r W W') (hne : g ≠ r) : SRow W' g ss := fun j hj => by
  obtain ⟨c0, c1, c2, c3⟩ := h j hj
  exact ⟨cellO O c0 hne, cellO O c1 hne, cellO O c2 hne, cellO O c3 hne⟩
def cellsS (ss : List (P2 × P2)) : List Value := ss.flatMap fun s => seg4 s.1 s.2
theorem cellsS_append (a b : List (P2 × P2)) : cellsS (a ++ b) = cellsS a ++ cellsS b := by simp [cellsS]
theorem cellsS_len (ss : List (P2 × P2)) : (cellsS ss).length = ss.length * 4 := by
  induction ss with
  | nil => rfl
  | cons s ss ih => have : cellsS (s :: ss) = seg4 s.1 s.2 ++ cellsS ss := by simp [cellsS]
                    rw [this, List.length_append, ih]; simp [seg4]; omega
theorem cellsS_at (ss : List (P2 × P2)) (j : Nat) (hj : j < ss.length) :
    (cellsS ss)[j * 4]? = some (.int .i64 (sAt ss j).1.1) ∧ (cellsS ss)[j * 4 + 1]? = some (.int .i64 (sAt ss j).1.2) ∧ (cellsS ss)[j * 4 + 2]? = some (.int .i64 (sAt ss j).2.1) ∧ (cellsS ss)[j * 4 + 3]? = some (.int .i64 (sAt ss j).2.2) := by
  induction ss generalizing j with
  | nil => simp at hj
  | cons s ss ih =>
    have e : cellsS (s :: ss) = .int .i64 s.1.1 :: .int .i64 s.1.2 :: .int .i64 s.2.1 :: .int .i64 s.2.2 :: cellsS ss := by simp [cellsS, seg4]
    cases j with
    | zero => rw [e]; exact ⟨rfl, rfl, rfl, rfl⟩
    | succ j =>
      have := ih j (by simpa using hj)
      have e1 : (j + 1) * 4 = j * 4 + 1 + 1 + 1 + 1 := by omega
      have e2 : (j + 1) * 4 + 1 = j * 4 + 1 + 1 + 1 + 1 + 1 := by omega
      have e3 : (j + 1) * 4 + 2 = j * 4 + 2 + 1 + 1 + 1 + 1 := by omega
      have e4 : (j + 1) * 4 + 3 = j * 4 + 3 + 1 + 1 + 1 + 1 := by omega
      rw [e, e2, e3, e4, e1]
      simpa [sAt] using this
/-- The edges of a loop. -/
def segsL (pts : List P2) : List (P2 × P2) := (List.range pts.length).map fun k => (ptAt pts k, ptAt pts (nxt pts k))
theorem segsL_len (pts : List P2) : (segsL pts).length = pts.length := by simp [segsL]
theorem segsL_at (pts : List P2) (k : Nat) (hk : k < pts.length) : sAt (segsL pts) k = (ptAt pts k, ptAt pts (nxt pts k)) := by simp [segsL, sAt, hk]
theorem segsL_cells (pts : List P2) : cellsS (segsL pts) = segCells pts pts.length := by
  have : ∀ n, cellsS ((List.range n).map fun k => (ptAt pts k, ptAt pts (nxt pts k))) = segCells pts n := by
    intro n
    induction n with
    | zero => rfl
    | succ n ih => rw [List.range_succ, List.map_append, cellsS_append, ih]; simp [segCells, cellsS]
  exact this _
/-- A slice of segments of our own memory, or none. -/
def AnsS (base top : Nat) (W : World) (v : Value) (ss : List (P2 × P2)) : Prop :=
  (ss = [] ∧ ∃ a c, v = .slice a 0 c) ∨ ∃ g c, v = .slice (some ⟨g, 0, none⟩) ss.length c ∧ base ≤ g ∧ g < top ∧ ss.length ≤ c ∧ Own W g (c * 4) 44 ∧ SRow W g ss
theorem AnsS.below {base top : Nat} {W W' : World} {v : Value} {ss : List (P2 × P2)} (h : AnsS base top W v ss) (J : Below W.heap.size W W') : AnsS base top W' v ss := by
  rcases h with h | ⟨g, c, e, hb, ht, hc, hO, hS⟩
  · exact .inl h
  · exact .inr ⟨g, c, e, hb, ht, hc, hO.below J, hS.below J hO.lt⟩
theorem AnsS.only {base top r : Nat} {W W' : World} {v : Value} {ss : List (P2 × P2)} (h : AnsS base top W v ss) (O : Only r W W') (hr : r < base ∨ top ≤ r) : AnsS base top W' v ss := by
  rcases h with h | ⟨g, c, e, hb, ht, hc, hO, hS⟩
  · exact .inl h
  · have hne : g ≠ r := by omega
    exact .inr ⟨g, c, e, hb, ht, hc, hO.only O hne, hS.only O hne⟩
theorem AnsS.of_owns {base n : Nat} {W : World} {v : Value} {ss : List (P2 × P2)} (h : W.ownsRow base 44 4 v n (cellsS ss)) (hn : ss.length = n) : AnsS base W.heap.size W v ss := by
  subst hn
  have h' := h
  rcases h.2 with ⟨h1, h2⟩ | ⟨g, cap, cur, e, hb, hg, h1, h2, hs, ht⟩
  · refine .inl ⟨List.eq_nil_of_length_eq_zero h2, none, 0, ?_⟩
    rw [h1]
  · refine .inr ⟨g, cap, e, hb, (Array.getElem?_eq_some_iff.1 hg).1, h1, ⟨cur, hg, hs⟩, fun j hj => ?_⟩
    subst e
    have hc := h'.cells (g := g) rfl
    have add : ∀ k : Nat, (⟨g, 0, none⟩ : Addr).add k = ⟨g, k, none⟩ := fun k => by unfold Addr.add; split <;> simp_all
    obtain ⟨c0, c1, c2, c3⟩ := cellsS_at ss j hj
    have d0 := hc _ _ c0
    have d1 := hc _ _ c1
    have d2 := hc _ _ c2
    have d3 := hc _ _ c3
    rw [add] at d0 d1 d2 d3
    exact ⟨d0, d1, d2, d3⟩
set_option maxHeartbeats 1000000 in
theorem eqSeg_same (x y u v : Int) (w : World) : Calls Try.prog 65 #[.agg #[.int .i64 x, .int .i64 y, .int .i64 u, .int .i64 v], .agg #[.int .i64 x, .int .i64 y, .int .i64 u, .int .i64 v]] w fun e w' => e = .returned (.bool true) ∧ Below w.heap.size w w' := by
  obtain ⟨W, hW, BW, T0, T1⟩ := boxes2 w (.cells #[.int .i64 x, .int .i64 y, .int .i64 u, .int .i64 v] 44) (.cells #[.int .i64 x, .int .i64 y, .int .i64 u, .int .i64 v] 44)
  obtain ⟨a0, a1, a2, a3⟩ := blk_4 T0
  obtain ⟨b0, b1, b2, b3⟩ := blk_4 T1
  go_enter Try.func65, Try.ntmps65
  go_upto_region 1 with fail
  rw [← hW]
  clear hW
  go_wp2_with fail
  refine (eqPt_same x y _).mono ?_
  rintro e w1 ⟨rfl, J1⟩
  clear a0 a1 a2 a3 b0 b1 b2 b3
  obtain ⟨a0, a1, a2, a3⟩ := blk_4 (keep J1 T0)
  obtain ⟨b0, b1, b2, b3⟩ := blk_4 (keep J1 T1)
  go_wp2_with fail
  refine (eqPt_same u v _).mono ?_
  rintro e w2 ⟨rfl, J2⟩
  go_wp2_with fail
  go_ret
  exact ⟨rfl, bw_trans (bw_trans BW J1) J2⟩
set_option maxRecDepth 100000 in
set_option maxHeartbeats 1000000 in
theorem eqSegs_same (base top base' top' : Nat) (va vb : Value) (ss : List (P2 × P2)) (w : World) (hA : AnsS base top w va ss) (hB : AnsS base' top' w vb ss) (hlen : ss.length ≤ 1048576) :
    Calls Try.prog 28 #[va, vb] w fun e w' => e = .returned (.bool true) ∧ Below w.heap.size w w' := by
  rcases hA with ⟨hnil, a, c, rfl⟩ | ⟨g, c, rfl, hg, _, hc, hO, hS⟩
  · rcases hB with ⟨_, b, d, rfl⟩ | ⟨g', d, rfl, _⟩
    · go_enter Try.func28, Try.ntmps28
      go_wp2_with fail
      go_loopw [5] (fun i wr => i = .int .i64 0 ∧ Below w.heap.size w wr) (fun i _ => 0)
      case atStart => exact ⟨rfl, bw_refl _⟩
      case round =>
        obtain ⟨rfl, hnx⟩ := hrel
        go_wp2_with fail
        go_ret
        exact ⟨rfl, hnx⟩
    · subst hnil
      go_enter Try.func28, Try.ntmps28
      go_wp2_with fail
      go_loopw [5] (fun i wr => i = .int .i64 0 ∧ Below w.heap.size w wr) (fun i _ => 0)
      case atStart => exact ⟨rfl, bw_refl _⟩
      case round =>
        obtain ⟨rfl, hnx⟩ := hrel
        go_wp2_with fail
        go_ret
        exact ⟨rfl, hnx⟩
  rcases hB with ⟨hnil, b, d, rfl⟩ | ⟨g', d, rfl, hg', _, hc', hO', hS'⟩
  · subst hnil
    go_enter Try.func28, Try.ntmps28
    go_wp2_with fail
    go_loopw [5] (fun i wr => i = .int .i64 0 ∧ Below w.heap.size w wr) (fun i _ => 0)
    case atStart => exact ⟨rfl, bw_refl _⟩
    case round =>
      obtain ⟨rfl, hnx⟩ := hrel
      go_wp2_with fail
      go_ret
      exact ⟨rfl, hnx⟩
  have gl := hO.lt
  have gl' := hO'.lt
  obtain ⟨len, hl⟩ : ∃ len, ss.length = len := ⟨_, rfl⟩
  have HL : Hid (ss.length = len) := hl
  rw [hl] at hc hc' hlen
  rw [hl]
  clear hl
  go_enter Try.func28, Try.ntmps28
  go_wp2_with fail
  go_loopw [5] (fun i wr => ∃ k : Nat, k ≤ len ∧ i = .int .i64 k ∧ Below w.heap.size w wr) (fun i _ => len - (intOf i).toNat)
  case atStart => exact ⟨0, Nat.zero_le _, rfl, bw_refl _⟩
  case round =>
    obtain ⟨k, hk, rfl, hnx⟩ := hrel
    by_cases hlt : k < len
    · obtain ⟨d0, d1, d2, d3⟩ := regrow4 ((hS.below hnx gl) k (by rw [HL.out]; exact hlt))
      obtain ⟨f0, f1, f2, f3⟩ := regrow4 ((hS'.below hnx gl') k (by rw [HL.out]; exact hlt))
      have i0 : (0 : Int) ≤ (k : Int) := Int.natCast_nonneg _
      have i1 : (k : Int) < (len : Int) := by omega
      go_wp2_with fail
      refine wp_region_quiet_below (by kernel_rfl) (by kernel_rfl) ?_
      repeat (first | go_big_quiet_step (first | (go_at_call 65; with_reducible exact Calls.regrown_of (eqSeg_same _ _ _ _ _))))
      refine wpQuiet_nil ?_
      intro _ hw'
      obtain ⟨⟨dq, osq⟩, hw''⟩ := hw'
      subst hw''
      have J := below_regrown wr dq osq
      generalize grow (redrawn wr dq) osq = w1 at J ⊢
      go_wp2_with fail
      go_roundw
      case rel => exact ⟨k + 1, by omega, by simp, bw_trans hnx J⟩
      case measure => simp [intOf]; omega
    · obtain rfl : k = len := by omega
      go_wp2
      go_ret
      exact ⟨rfl, hnx⟩
/-- What a marked row holds. -/
def NumS (W : World) (v : Value) (n : Nat) (k : Int) : Prop := (n = 0 ∧ ∃ a c, v = .slice a 0 c) ∨ ∃ g c, v = .slice (some ⟨g, 0, none⟩) n c ∧ g < W.heap.size ∧ Num W g (n * 4) k
theorem NumS.below {W W' : World} {v : Value} {n : Nat} {k : Int} (h : NumS W v n k) (J : Below W.heap.size W W') : NumS W' v n k := by
  rcases h with h | ⟨g, c, e, hg, hN⟩
  · exact .inl h
  · exact .inr ⟨g, c, e, Nat.lt_of_lt_of_le hg J.size, hN.below hg J⟩
set_option maxHeartbeats 1000000 in
theorem markSegs_ans (base top : Nat) (v : Value) (ss : List (P2 × P2)) (w : World) (h : AnsS base top w v ss) (hlen : ss.length ≤ 1048576) :
    Calls Try.prog 31 #[v, .int .i64 1] w fun e w' => e = .returned (.int .i64 (1 + 4 * ss.length)) ∧ NumS w' v ss.length 1 ∧ ∃ r, base ≤ r ∧ Only r w w' := by
  rcases h with ⟨hnil, a, c, rfl⟩ | ⟨g, c, rfl, hg, ht, hc, hO, hS⟩
  · subst hnil
    go_enter Try.func31, Try.ntmps31
    go_wp2_with fail
    go_loopw [1, 5] (fun kk i wr => i = .int .i64 0 ∧ kk = .int .i64 1 ∧ Below w.heap.size w wr) (fun _ i _ => 0)
    case atStart => exact ⟨rfl, rfl, bw_refl _⟩
    case round =>
      obtain ⟨rfl, rfl, hnx⟩ := hrel
      go_wp2_with fail
      go_ret
      exact ⟨by simp, .inl ⟨rfl, _, _, rfl⟩, base, Nat.le_refl _, Only.of_below hnx⟩
  · refine (markSegs_any g ss.length c (c * 4) 1 w hO (by omega) hlen (by omega) (by omega)).mono ?_
    rintro e w' ⟨rfl, hN, hO', P⟩
    exact ⟨rfl, .inr ⟨g, c, rfl, hO'.lt, hN⟩, g, hg, P⟩
set_option maxHeartbeats 1000000 in
theorem heldSegs_ans (v : Value) (n : Nat) (w : World) (h : NumS w v n 1) (hlen : n ≤ 1048576) :
    Calls Try.prog 32 #[v, .int .i64 1] w fun e w' => e = .returned (.int .i64 (1 + 4 * n)) ∧ Below w.heap.size w w' := by
  rcases h with ⟨rfl, a, c, rfl⟩ | ⟨g, c, rfl, hg, hN⟩
  · go_enter Try.func32, Try.ntmps32
    go_wp2_with fail
    go_loopw [1, 5] (fun kk i wr => i = .int .i64 0 ∧ kk = .int .i64 1 ∧ Below w.heap.size w wr) (fun _ i _ => 0)
    case atStart => exact ⟨rfl, rfl, bw_refl _⟩
    case round =>
      obtain ⟨rfl, rfl, hnx⟩ := hrel
      go_wp2_with fail
      go_ret
      exact ⟨by simp, hnx⟩
  · exact heldSegs_any g n c 1 w hN hg hlen (by omega) (by omega)
end Go.Proofs.Ythedlopfjlnogaa
