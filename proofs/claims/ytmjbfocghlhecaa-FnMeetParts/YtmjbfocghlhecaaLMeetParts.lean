/-
  OUR OWN TEXT. The law FnMeetParts, walked: whatever bytes come in, it answers true and writes nothing that was there.
-/
import Derived.Test.YtmjbfocghlhecaaDrawP
import Derived.Test.YtmjbfocghlhecaaSMeet
import Derived.Test.YtmjbfocghlhecaaLu
import Derived.Test.YtmjbfocghlhecaaGeoParts
namespace Go.Proofs.Ytmjbfocghlhecaa
open Go.RowKit Go.Sort

theorem threeP (n m d b : Int) : (n == m) = false ∨ (n = m ∧ (d == b) = false) ∨ (n = m ∧ d = b) := by
  by_cases h : n = m
  · by_cases h2 : d = b
    · exact .inr (.inr ⟨h, h2⟩)
    · exact .inr (.inl ⟨h, by simpa using h2⟩)
  · exact .inl (by simpa using h)
theorem meetParts_long (w : World) (a0 : Option Addr) (len0 cap0 : Nat) (a1 : Option Addr) (len1 cap1 : Nat) (h : 1048576 < len0 ∨ 1048576 < len1) :
    Calls Try.prog 10 #[.slice a0 len0 cap0, .slice a1 len1 cap1] w fun e w' => e = .returned (.bool true) ∧ Below w.heap.size w w' := by
  by_cases h0 : 1048576 < len0
  · clear h
    go_enter Try.func10, Try.ntmps10
    go_wp2
    go_ret
    exact ⟨rfl, bw_refl _⟩
  · have h1 : 1048576 < len1 := by omega
    clear h
    go_enter Try.func10, Try.ntmps10
    go_wp2
    go_ret
    exact ⟨rfl, bw_refl _⟩
set_option maxHeartbeats 4000000 in
theorem meetParts_walk (w : World) (a0 : Option Addr) (len0 cap0 : Nat) (z0 : List Int) (r0 : IsRow .u8 w a0 len0 cap0 z0) (a1 : Option Addr) (len1 cap1 : Nat) (z1 : List Int) (_r1 : IsRow .u8 w a1 len1 cap1 z1) :
    Calls Try.prog 10 #[.slice a0 len0 cap0, .slice a1 len1 cap1] w fun e w' => e = .returned (.bool true) ∧ Below w.heap.size w w' := by
  by_cases hl : 1048576 < len0 ∨ 1048576 < len1
  · exact meetParts_long w a0 len0 cap0 a1 len1 cap1 hl
  have hl0 : len0 ≤ 1048576 := by omega
  have hl1 : len1 ≤ 1048576 := by omega
  clear hl
  go_enter Try.func10, Try.ntmps10
  go_wp2_with fail
  refine (drawMeet_any w _ r0 (bw_refl _)).mono ?_
  rintro e w0 ⟨ax, ay, bx, b_y, cx, cy, ex, ey, rfl, b1⟩
  obtain ⟨W, hW, BW, S, T⟩ := boxes2 w0 (.cells #[.int .i64 ax, .int .i64 ay, .int .i64 bx, .int .i64 b_y] 30) (.cells #[.int .i64 cx, .int .i64 cy, .int .i64 ex, .int .i64 ey] 30)
  replace BW := bw_trans b1 BW
  clear b1
  go_upto_region 4 with fail
  rw [← hW]
  clear hW
  have zS := blk_lt S
  obtain ⟨fS0, fS1, fS2, fS3⟩ := blk_4 S
  have zT := blk_lt T
  obtain ⟨fT0, fT1, fT2, fT3⟩ := blk_4 T
  cases gs : sgB ax ay bx b_y
  · have e0 : meetV ax ay bx b_y cx cy ex ey = false := by unfold meetV; rw [gs]; rfl
    go_wp2_with fail
    refine (meet_any _ _ _ _ _ _ _ _ _).mono ?_
    rw [e0]
    rintro e w1 ⟨rfl, J⟩
    obtain ⟨hc, hf⟩ := bcell J
    go_wp2_with fail
    refine (sMeet_any _ _ _ _ _ _ _ _ _).mono ?_
    rw [e0]
    rintro e w1 ⟨rfl, J2⟩
    replace J := bw_trans J J2
    clear hc hf J2
    obtain ⟨hc, hf⟩ := bcell J
    go_wp2_with fail
    refine (sSeg_any _ _ _ _ _).mono ?_
    rw [gs]
    rintro e w1 ⟨rfl, J2⟩
    replace J := bw_trans J J2
    clear hc hf J2
    obtain ⟨hc, hf⟩ := bcell J
    go_wp2_with fail
    refine (sMeet_any _ _ _ _ _ _ _ _ _).mono ?_
    rw [e0]
    rintro e w1 ⟨rfl, J2⟩
    replace J := bw_trans J J2
    clear hc hf J2
    obtain ⟨hc, hf⟩ := bcell J
    go_wp2_with fail
    go_ret
    exact ⟨rfl, bw_trans BW J⟩
  · skip
    cases gt : sgB cx cy ex ey
    · have e0 : meetV ax ay bx b_y cx cy ex ey = false := by unfold meetV; rw [gs, gt]; rfl
      go_wp2_with fail
      refine (meet_any _ _ _ _ _ _ _ _ _).mono ?_
      rw [e0]
      rintro e w1 ⟨rfl, J⟩
      obtain ⟨hc, hf⟩ := bcell J
      go_wp2_with fail
      refine (sMeet_any _ _ _ _ _ _ _ _ _).mono ?_
      rw [e0]
      rintro e w1 ⟨rfl, J2⟩
      replace J := bw_trans J J2
      clear hc hf J2
      obtain ⟨hc, hf⟩ := bcell J
      go_wp2_with fail
      refine (sSeg_any _ _ _ _ _).mono ?_
      rw [gs]
      rintro e w1 ⟨rfl, J2⟩
      replace J := bw_trans J J2
      clear hc hf J2
      obtain ⟨hc, hf⟩ := bcell J
      go_wp2_with fail
      refine (sSeg_any _ _ _ _ _).mono ?_
      rw [gt]
      rintro e w1 ⟨rfl, J2⟩
      replace J := bw_trans J J2
      clear hc hf J2
      obtain ⟨hc, hf⟩ := bcell J
      go_wp2_with fail
      refine (sMeet_any _ _ _ _ _ _ _ _ _).mono ?_
      rw [e0]
      rintro e w1 ⟨rfl, J2⟩
      replace J := bw_trans J J2
      clear hc hf J2
      obtain ⟨hc, hf⟩ := bcell J
      go_wp2_with fail
      go_ret
      exact ⟨rfl, bw_trans BW J⟩
    · skip
      have e1 : meetV ax ay bx b_y cx cy ex ey = meetC ax ay bx b_y cx cy ex ey := by unfold meetV; rw [gs, gt]; rfl
      obtain ⟨pa, pb, hd⟩ := sg_parts gs
      cases hm : meetC ax ay bx b_y cx cy ex ey
      · rw [hm] at e1
        go_wp2_with fail
        refine (meet_any _ _ _ _ _ _ _ _ _).mono ?_
        rw [e1]
        rintro e w1 ⟨rfl, J⟩
        obtain ⟨hc, hf⟩ := bcell J
        go_wp2_with fail
        refine (sMeet_any _ _ _ _ _ _ _ _ _).mono ?_
        rw [e1]
        rintro e w1 ⟨rfl, J2⟩
        replace J := bw_trans J J2
        clear hc hf J2
        obtain ⟨hc, hf⟩ := bcell J
        go_wp2_with fail
        refine (sSeg_any _ _ _ _ _).mono ?_
        rw [gs]
        rintro e w1 ⟨rfl, J2⟩
        replace J := bw_trans J J2
        clear hc hf J2
        obtain ⟨hc, hf⟩ := bcell J
        go_wp2_with fail
        refine (sSeg_any _ _ _ _ _).mono ?_
        rw [gt]
        rintro e w1 ⟨rfl, J2⟩
        replace J := bw_trans J J2
        clear hc hf J2
        obtain ⟨hc, hf⟩ := bcell J
        go_wp2_with fail
        refine (sMeet_any _ _ _ _ _ _ _ _ _).mono ?_
        rw [e1]
        rintro e w1 ⟨rfl, J2⟩
        replace J := bw_trans J J2
        clear hc hf J2
        obtain ⟨hc, hf⟩ := bcell J
        go_wp2_with fail
        go_ret
        exact ⟨rfl, bw_trans BW J⟩
      · rw [hm] at e1
        go_wp2_with fail
        refine (meet_any _ _ _ _ _ _ _ _ _).mono ?_
        rw [e1]
        rintro e w1 ⟨rfl, J⟩
        obtain ⟨hc, hf⟩ := bcell J
        go_wp2_with fail
        refine (sMeet_any _ _ _ _ _ _ _ _ _).mono ?_
        rw [e1]
        rintro e w1 ⟨rfl, J2⟩
        replace J := bw_trans J J2
        clear hc hf J2
        obtain ⟨hc, hf⟩ := bcell J
        go_wp2_with fail
        refine (sSeg_any _ _ _ _ _).mono ?_
        rw [gs]
        rintro e w1 ⟨rfl, J2⟩
        replace J := bw_trans J J2
        clear hc hf J2
        obtain ⟨hc, hf⟩ := bcell J
        go_wp2_with fail
        refine (sSeg_any _ _ _ _ _).mono ?_
        rw [gt]
        rintro e w1 ⟨rfl, J2⟩
        replace J := bw_trans J J2
        clear hc hf J2
        obtain ⟨hc, hf⟩ := bcell J
        have hA := (ptB_iff _ _).1 pa
        have hB := (ptB_iff _ _).1 pb
        go_upto_region 8 with fail
        obtain ⟨V, hV, BV, Q⟩ := boxes1 w1 (.cells #[.int .i64 ((len1 : Int) % 10), .int .i64 ((len1 : Int) / 3 % 10)] 24)
        have nq : w0.heap.size < w1.heap.size ∧ w0.heap.size + 1 < w1.heap.size := by have := J.size; omega
        have wz : w.heap.size ≤ w1.heap.size := (bw_trans BW J).size
        rw [← hV]
        clear hV
        replace S := keep BV (keep J S)
        replace T := keep BV (keep J T)
        replace BW := bw_trans BW (bw_trans J BV)
        clear J BV hc hf zS zT fS0 fS1 fS2 fS3 fT0 fT1 fT2 fT3
        by_cases h1 : (ax + bx) % 2 = 0
        · have h1' : ((ax + bx) % 2 == 0) = true := by simpa using h1
          by_cases h2 : (ay + b_y) % 2 = 0
          · have h2' : ((ay + b_y) % 2 == 0) = true := by simpa using h2
            have zS := blk_lt S
            obtain ⟨fS0, fS1, fS2, fS3⟩ := blk_4 S
            have zQ := blk_lt Q
            obtain ⟨fQ0, fQ1, gQ0, gQ1⟩ := blk2 Q
            go_upto_region 10 with fail
            replace Q := setB2 Q (u0 := .int .i64 ((ax + bx) / 2)) (u1 := .int .i64 ((ay + b_y) / 2))
            replace S := set_oth (set_oth S (b := w1.heap.size) (i := 0) (v := .int .i64 ((ax + bx) / 2)) (by omega)) (b := w1.heap.size) (i := 1) (v := .int .i64 ((ay + b_y) / 2)) (by omega)
            replace T := set_oth (set_oth T (b := w1.heap.size) (i := 0) (v := .int .i64 ((ax + bx) / 2)) (by omega)) (b := w1.heap.size) (i := 1) (v := .int .i64 ((ay + b_y) / 2)) (by omega)
            replace BW := bw_set (bw_set BW (p := ⟨w1.heap.size, 0, none⟩) (by dsimp only; omega) (.int .i64 ((ax + bx) / 2))) (p := ⟨w1.heap.size, 1, none⟩) (by dsimp only; omega) (.int .i64 ((ay + b_y) / 2))
            clear zS fS0 fS1 fS2 fS3 zQ fQ0 fQ1 gQ0 gQ1
            generalize ((V.setCell ⟨w1.heap.size, 0, none⟩ (.int .i64 ((ax + bx) / 2))).setCell ⟨w1.heap.size, 1, none⟩ (.int .i64 ((ay + b_y) / 2))) = V2 at *
            have gq : ptB ((ax + bx) / 2) ((ay + b_y) / 2) = true := (ptB_iff _ _).2 (by omega)
            generalize hqx : (ax + bx) / 2 = qx at *
            generalize hqy : (ay + b_y) / 2 = qy at *
            clear hqx hqy
            have zS := blk_lt S
            obtain ⟨fS0, fS1, fS2, fS3⟩ := blk_4 S
            have zT := blk_lt T
            obtain ⟨fT0, fT1, fT2, fT3⟩ := blk_4 T
            have zQ := blk_lt Q
            obtain ⟨fQ0, fQ1⟩ := blk_2 Q
            cases hh : hasC ax ay bx b_y qx qy
            · go_wp2_with fail
              refine (has_ok _ _ _ _ _ _ _ gs gq).mono ?_
              rw [hh]
              rintro e w1 ⟨rfl, J⟩
              obtain ⟨hc, hf⟩ := bcell J
              go_wp2_with fail
              go_ret
              exact ⟨rfl, bw_trans BW J⟩
            · go_wp2_with fail
              refine (has_ok _ _ _ _ _ _ _ gs gq).mono ?_
              rw [hh]
              rintro e w1 ⟨rfl, J⟩
              obtain ⟨hc, hf⟩ := bcell J
              rcases threeP qx ax qy ay with a1 | ⟨a1, b1⟩ | ⟨a1, b1⟩
              · skip
                rcases threeP qx bx qy b_y with a2 | ⟨a2, b2⟩ | ⟨a2, b2⟩
                · have nA : ¬ (qx = ax ∧ qy = ay) := by simp at a1; omega
                  have nB : ¬ (qx = bx ∧ qy = b_y) := by simp at a2; omega
                  have g1 : sgB ax ay qx qy = true := by rw [sgB_iff]; rw [ptB_iff] at pa gq; omega
                  have g2 : sgB qx qy bx b_y = true := by rw [sgB_iff]; rw [ptB_iff] at pb gq; omega
                  have mp := meet_parts hd hh nA nB hm
                  clear nA nB
                  cases m1 : meetC ax ay qx qy cx cy ex ey
                  · rw [m1] at mp
                    have m2 : meetC qx qy bx b_y cx cy ex ey = true := by simpa using mp
                    clear mp
                    go_wp2_with fail
                    refine (meet_ok _ _ _ _ _ _ _ _ _ g1 gt).mono ?_
                    rw [m1]
                    rintro e w1 ⟨rfl, J2⟩
                    replace J := bw_trans J J2
                    clear hc hf J2
                    obtain ⟨hc, hf⟩ := bcell J
                    go_wp2_with fail
                    refine (meet_ok _ _ _ _ _ _ _ _ _ g2 gt).mono ?_
                    rw [m2]
                    rintro e w1 ⟨rfl, J2⟩
                    replace J := bw_trans J J2
                    clear hc hf J2
                    obtain ⟨hc, hf⟩ := bcell J
                    go_wp2_with fail
                    go_ret
                    exact ⟨rfl, bw_trans BW J⟩
                  · go_wp2_with fail
                    refine (meet_ok _ _ _ _ _ _ _ _ _ g1 gt).mono ?_
                    rw [m1]
                    rintro e w1 ⟨rfl, J2⟩
                    replace J := bw_trans J J2
                    clear hc hf J2
                    obtain ⟨hc, hf⟩ := bcell J
                    go_wp2_with fail
                    go_ret
                    exact ⟨rfl, bw_trans BW J⟩
                · have nA : ¬ (qx = ax ∧ qy = ay) := by simp at a1; omega
                  have nB : ¬ (qx = bx ∧ qy = b_y) := by simp at b2; omega
                  have g1 : sgB ax ay qx qy = true := by rw [sgB_iff]; rw [ptB_iff] at pa gq; omega
                  have g2 : sgB qx qy bx b_y = true := by rw [sgB_iff]; rw [ptB_iff] at pb gq; omega
                  have mp := meet_parts hd hh nA nB hm
                  clear nA nB
                  subst a2
                  cases m1 : meetC ax ay qx qy cx cy ex ey
                  · rw [m1] at mp
                    have m2 : meetC qx qy qx b_y cx cy ex ey = true := by simpa using mp
                    clear mp
                    go_wp2_with fail
                    refine (meet_ok _ _ _ _ _ _ _ _ _ g1 gt).mono ?_
                    rw [m1]
                    rintro e w1 ⟨rfl, J2⟩
                    replace J := bw_trans J J2
                    clear hc hf J2
                    obtain ⟨hc, hf⟩ := bcell J
                    go_wp2_with fail
                    refine (meet_ok _ _ _ _ _ _ _ _ _ g2 gt).mono ?_
                    rw [m2]
                    rintro e w1 ⟨rfl, J2⟩
                    replace J := bw_trans J J2
                    clear hc hf J2
                    obtain ⟨hc, hf⟩ := bcell J
                    go_wp2_with fail
                    go_ret
                    exact ⟨rfl, bw_trans BW J⟩
                  · go_wp2_with fail
                    refine (meet_ok _ _ _ _ _ _ _ _ _ g1 gt).mono ?_
                    rw [m1]
                    rintro e w1 ⟨rfl, J2⟩
                    replace J := bw_trans J J2
                    clear hc hf J2
                    obtain ⟨hc, hf⟩ := bcell J
                    go_wp2_with fail
                    go_ret
                    exact ⟨rfl, bw_trans BW J⟩
                · subst a2 b2
                  go_wp2_with fail
                  go_ret
                  exact ⟨rfl, bw_trans BW J⟩
              · skip
                rcases threeP qx bx qy b_y with a2 | ⟨a2, b2⟩ | ⟨a2, b2⟩
                · have nA : ¬ (qx = ax ∧ qy = ay) := by simp at b1; omega
                  have nB : ¬ (qx = bx ∧ qy = b_y) := by simp at a2; omega
                  have g1 : sgB ax ay qx qy = true := by rw [sgB_iff]; rw [ptB_iff] at pa gq; omega
                  have g2 : sgB qx qy bx b_y = true := by rw [sgB_iff]; rw [ptB_iff] at pb gq; omega
                  have mp := meet_parts hd hh nA nB hm
                  clear nA nB
                  subst a1
                  cases m1 : meetC qx ay qx qy cx cy ex ey
                  · rw [m1] at mp
                    have m2 : meetC qx qy bx b_y cx cy ex ey = true := by simpa using mp
                    clear mp
                    go_wp2_with fail
                    refine (meet_ok _ _ _ _ _ _ _ _ _ g1 gt).mono ?_
                    rw [m1]
                    rintro e w1 ⟨rfl, J2⟩
                    replace J := bw_trans J J2
                    clear hc hf J2
                    obtain ⟨hc, hf⟩ := bcell J
                    go_wp2_with fail
                    refine (meet_ok _ _ _ _ _ _ _ _ _ g2 gt).mono ?_
                    rw [m2]
                    rintro e w1 ⟨rfl, J2⟩
                    replace J := bw_trans J J2
                    clear hc hf J2
                    obtain ⟨hc, hf⟩ := bcell J
                    go_wp2_with fail
                    go_ret
                    exact ⟨rfl, bw_trans BW J⟩
                  · go_wp2_with fail
                    refine (meet_ok _ _ _ _ _ _ _ _ _ g1 gt).mono ?_
                    rw [m1]
                    rintro e w1 ⟨rfl, J2⟩
                    replace J := bw_trans J J2
                    clear hc hf J2
                    obtain ⟨hc, hf⟩ := bcell J
                    go_wp2_with fail
                    go_ret
                    exact ⟨rfl, bw_trans BW J⟩
                · have nA : ¬ (qx = ax ∧ qy = ay) := by simp at b1; omega
                  have nB : ¬ (qx = bx ∧ qy = b_y) := by simp at b2; omega
                  have g1 : sgB ax ay qx qy = true := by rw [sgB_iff]; rw [ptB_iff] at pa gq; omega
                  have g2 : sgB qx qy bx b_y = true := by rw [sgB_iff]; rw [ptB_iff] at pb gq; omega
                  have mp := meet_parts hd hh nA nB hm
                  clear nA nB
                  subst a1
                  subst a2
                  cases m1 : meetC qx ay qx qy cx cy ex ey
                  · rw [m1] at mp
                    have m2 : meetC qx qy qx b_y cx cy ex ey = true := by simpa using mp
                    clear mp
                    go_wp2_with fail
                    refine (meet_ok _ _ _ _ _ _ _ _ _ g1 gt).mono ?_
                    rw [m1]
                    rintro e w1 ⟨rfl, J2⟩
                    replace J := bw_trans J J2
                    clear hc hf J2
                    obtain ⟨hc, hf⟩ := bcell J
                    go_wp2_with fail
                    refine (meet_ok _ _ _ _ _ _ _ _ _ g2 gt).mono ?_
                    rw [m2]
                    rintro e w1 ⟨rfl, J2⟩
                    replace J := bw_trans J J2
                    clear hc hf J2
                    obtain ⟨hc, hf⟩ := bcell J
                    go_wp2_with fail
                    go_ret
                    exact ⟨rfl, bw_trans BW J⟩
                  · go_wp2_with fail
                    refine (meet_ok _ _ _ _ _ _ _ _ _ g1 gt).mono ?_
                    rw [m1]
                    rintro e w1 ⟨rfl, J2⟩
                    replace J := bw_trans J J2
                    clear hc hf J2
                    obtain ⟨hc, hf⟩ := bcell J
                    go_wp2_with fail
                    go_ret
                    exact ⟨rfl, bw_trans BW J⟩
                · subst a2 b2
                  go_wp2_with fail
                  go_ret
                  exact ⟨rfl, bw_trans BW J⟩
              · subst a1 b1
                go_wp2_with fail
                go_ret
                exact ⟨rfl, bw_trans BW J⟩
          · have h2' : ((ay + b_y) % 2 == 0) = false := by simpa using h2
            have zS := blk_lt S
            obtain ⟨fS0, fS1, fS2, fS3⟩ := blk_4 S
            have zQ := blk_lt Q
            obtain ⟨fQ0, fQ1, gQ0, gQ1⟩ := blk2 Q
            go_upto_region 10 with fail
            clear zS fS0 fS1 fS2 fS3 zQ fQ0 fQ1 gQ0 gQ1
            have gq : ptB ((len1 : Int) % 10) ((len1 : Int) / 3 % 10) = true := (ptB_iff _ _).2 (by omega)
            generalize hqx : (len1 : Int) % 10 = qx at *
            generalize hqy : (len1 : Int) / 3 % 10 = qy at *
            clear hqx hqy
            have zS := blk_lt S
            obtain ⟨fS0, fS1, fS2, fS3⟩ := blk_4 S
            have zT := blk_lt T
            obtain ⟨fT0, fT1, fT2, fT3⟩ := blk_4 T
            have zQ := blk_lt Q
            obtain ⟨fQ0, fQ1⟩ := blk_2 Q
            cases hh : hasC ax ay bx b_y qx qy
            · go_wp2_with fail
              refine (has_ok _ _ _ _ _ _ _ gs gq).mono ?_
              rw [hh]
              rintro e w1 ⟨rfl, J⟩
              obtain ⟨hc, hf⟩ := bcell J
              go_wp2_with fail
              go_ret
              exact ⟨rfl, bw_trans BW J⟩
            · go_wp2_with fail
              refine (has_ok _ _ _ _ _ _ _ gs gq).mono ?_
              rw [hh]
              rintro e w1 ⟨rfl, J⟩
              obtain ⟨hc, hf⟩ := bcell J
              rcases threeP qx ax qy ay with a1 | ⟨a1, b1⟩ | ⟨a1, b1⟩
              · skip
                rcases threeP qx bx qy b_y with a2 | ⟨a2, b2⟩ | ⟨a2, b2⟩
                · have nA : ¬ (qx = ax ∧ qy = ay) := by simp at a1; omega
                  have nB : ¬ (qx = bx ∧ qy = b_y) := by simp at a2; omega
                  have g1 : sgB ax ay qx qy = true := by rw [sgB_iff]; rw [ptB_iff] at pa gq; omega
                  have g2 : sgB qx qy bx b_y = true := by rw [sgB_iff]; rw [ptB_iff] at pb gq; omega
                  have mp := meet_parts hd hh nA nB hm
                  clear nA nB
                  cases m1 : meetC ax ay qx qy cx cy ex ey
                  · rw [m1] at mp
                    have m2 : meetC qx qy bx b_y cx cy ex ey = true := by simpa using mp
                    clear mp
                    go_wp2_with fail
                    refine (meet_ok _ _ _ _ _ _ _ _ _ g1 gt).mono ?_
                    rw [m1]
                    rintro e w1 ⟨rfl, J2⟩
                    replace J := bw_trans J J2
                    clear hc hf J2
                    obtain ⟨hc, hf⟩ := bcell J
                    go_wp2_with fail
                    refine (meet_ok _ _ _ _ _ _ _ _ _ g2 gt).mono ?_
                    rw [m2]
                    rintro e w1 ⟨rfl, J2⟩
                    replace J := bw_trans J J2
                    clear hc hf J2
                    obtain ⟨hc, hf⟩ := bcell J
                    go_wp2_with fail
                    go_ret
                    exact ⟨rfl, bw_trans BW J⟩
                  · go_wp2_with fail
                    refine (meet_ok _ _ _ _ _ _ _ _ _ g1 gt).mono ?_
                    rw [m1]
                    rintro e w1 ⟨rfl, J2⟩
                    replace J := bw_trans J J2
                    clear hc hf J2
                    obtain ⟨hc, hf⟩ := bcell J
                    go_wp2_with fail
                    go_ret
                    exact ⟨rfl, bw_trans BW J⟩
                · have nA : ¬ (qx = ax ∧ qy = ay) := by simp at a1; omega
                  have nB : ¬ (qx = bx ∧ qy = b_y) := by simp at b2; omega
                  have g1 : sgB ax ay qx qy = true := by rw [sgB_iff]; rw [ptB_iff] at pa gq; omega
                  have g2 : sgB qx qy bx b_y = true := by rw [sgB_iff]; rw [ptB_iff] at pb gq; omega
                  have mp := meet_parts hd hh nA nB hm
                  clear nA nB
                  subst a2
                  cases m1 : meetC ax ay qx qy cx cy ex ey
                  · rw [m1] at mp
                    have m2 : meetC qx qy qx b_y cx cy ex ey = true := by simpa using mp
                    clear mp
                    go_wp2_with fail
                    refine (meet_ok _ _ _ _ _ _ _ _ _ g1 gt).mono ?_
                    rw [m1]
                    rintro e w1 ⟨rfl, J2⟩
                    replace J := bw_trans J J2
                    clear hc hf J2
                    obtain ⟨hc, hf⟩ := bcell J
                    go_wp2_with fail
                    refine (meet_ok _ _ _ _ _ _ _ _ _ g2 gt).mono ?_
                    rw [m2]
                    rintro e w1 ⟨rfl, J2⟩
                    replace J := bw_trans J J2
                    clear hc hf J2
                    obtain ⟨hc, hf⟩ := bcell J
                    go_wp2_with fail
                    go_ret
                    exact ⟨rfl, bw_trans BW J⟩
                  · go_wp2_with fail
                    refine (meet_ok _ _ _ _ _ _ _ _ _ g1 gt).mono ?_
                    rw [m1]
                    rintro e w1 ⟨rfl, J2⟩
                    replace J := bw_trans J J2
                    clear hc hf J2
                    obtain ⟨hc, hf⟩ := bcell J
                    go_wp2_with fail
                    go_ret
                    exact ⟨rfl, bw_trans BW J⟩
                · subst a2 b2
                  go_wp2_with fail
                  go_ret
                  exact ⟨rfl, bw_trans BW J⟩
              · skip
                rcases threeP qx bx qy b_y with a2 | ⟨a2, b2⟩ | ⟨a2, b2⟩
                · have nA : ¬ (qx = ax ∧ qy = ay) := by simp at b1; omega
                  have nB : ¬ (qx = bx ∧ qy = b_y) := by simp at a2; omega
                  have g1 : sgB ax ay qx qy = true := by rw [sgB_iff]; rw [ptB_iff] at pa gq; omega
                  have g2 : sgB qx qy bx b_y = true := by rw [sgB_iff]; rw [ptB_iff] at pb gq; omega
                  have mp := meet_parts hd hh nA nB hm
                  clear nA nB
                  subst a1
                  cases m1 : meetC qx ay qx qy cx cy ex ey
                  · rw [m1] at mp
                    have m2 : meetC qx qy bx b_y cx cy ex ey = true := by simpa using mp
                    clear mp
                    go_wp2_with fail
                    refine (meet_ok _ _ _ _ _ _ _ _ _ g1 gt).mono ?_
                    rw [m1]
                    rintro e w1 ⟨rfl, J2⟩
                    replace J := bw_trans J J2
                    clear hc hf J2
                    obtain ⟨hc, hf⟩ := bcell J
                    go_wp2_with fail
                    refine (meet_ok _ _ _ _ _ _ _ _ _ g2 gt).mono ?_
                    rw [m2]
                    rintro e w1 ⟨rfl, J2⟩
                    replace J := bw_trans J J2
                    clear hc hf J2
                    obtain ⟨hc, hf⟩ := bcell J
                    go_wp2_with fail
                    go_ret
                    exact ⟨rfl, bw_trans BW J⟩
                  · go_wp2_with fail
                    refine (meet_ok _ _ _ _ _ _ _ _ _ g1 gt).mono ?_
                    rw [m1]
                    rintro e w1 ⟨rfl, J2⟩
                    replace J := bw_trans J J2
                    clear hc hf J2
                    obtain ⟨hc, hf⟩ := bcell J
                    go_wp2_with fail
                    go_ret
                    exact ⟨rfl, bw_trans BW J⟩
                · have nA : ¬ (qx = ax ∧ qy = ay) := by simp at b1; omega
                  have nB : ¬ (qx = bx ∧ qy = b_y) := by simp at b2; omega
                  have g1 : sgB ax ay qx qy = true := by rw [sgB_iff]; rw [ptB_iff] at pa gq; omega
                  have g2 : sgB qx qy bx b_y = true := by rw [sgB_iff]; rw [ptB_iff] at pb gq; omega
                  have mp := meet_parts hd hh nA nB hm
                  clear nA nB
                  subst a1
                  subst a2
                  cases m1 : meetC qx ay qx qy cx cy ex ey
                  · rw [m1] at mp
                    have m2 : meetC qx qy qx b_y cx cy ex ey = true := by simpa using mp
                    clear mp
                    go_wp2_with fail
                    refine (meet_ok _ _ _ _ _ _ _ _ _ g1 gt).mono ?_
                    rw [m1]
                    rintro e w1 ⟨rfl, J2⟩
                    replace J := bw_trans J J2
                    clear hc hf J2
                    obtain ⟨hc, hf⟩ := bcell J
                    go_wp2_with fail
                    refine (meet_ok _ _ _ _ _ _ _ _ _ g2 gt).mono ?_
                    rw [m2]
                    rintro e w1 ⟨rfl, J2⟩
                    replace J := bw_trans J J2
                    clear hc hf J2
                    obtain ⟨hc, hf⟩ := bcell J
                    go_wp2_with fail
                    go_ret
                    exact ⟨rfl, bw_trans BW J⟩
                  · go_wp2_with fail
                    refine (meet_ok _ _ _ _ _ _ _ _ _ g1 gt).mono ?_
                    rw [m1]
                    rintro e w1 ⟨rfl, J2⟩
                    replace J := bw_trans J J2
                    clear hc hf J2
                    obtain ⟨hc, hf⟩ := bcell J
                    go_wp2_with fail
                    go_ret
                    exact ⟨rfl, bw_trans BW J⟩
                · subst a2 b2
                  go_wp2_with fail
                  go_ret
                  exact ⟨rfl, bw_trans BW J⟩
              · subst a1 b1
                go_wp2_with fail
                go_ret
                exact ⟨rfl, bw_trans BW J⟩
        · have h1' : ((ax + bx) % 2 == 0) = false := by simpa using h1
          have zS := blk_lt S
          obtain ⟨fS0, fS1, fS2, fS3⟩ := blk_4 S
          have zQ := blk_lt Q
          obtain ⟨fQ0, fQ1, gQ0, gQ1⟩ := blk2 Q
          go_upto_region 10 with fail
          clear zS fS0 fS1 fS2 fS3 zQ fQ0 fQ1 gQ0 gQ1
          have gq : ptB ((len1 : Int) % 10) ((len1 : Int) / 3 % 10) = true := (ptB_iff _ _).2 (by omega)
          generalize hqx : (len1 : Int) % 10 = qx at *
          generalize hqy : (len1 : Int) / 3 % 10 = qy at *
          clear hqx hqy
          have zS := blk_lt S
          obtain ⟨fS0, fS1, fS2, fS3⟩ := blk_4 S
          have zT := blk_lt T
          obtain ⟨fT0, fT1, fT2, fT3⟩ := blk_4 T
          have zQ := blk_lt Q
          obtain ⟨fQ0, fQ1⟩ := blk_2 Q
          cases hh : hasC ax ay bx b_y qx qy
          · go_wp2_with fail
            refine (has_ok _ _ _ _ _ _ _ gs gq).mono ?_
            rw [hh]
            rintro e w1 ⟨rfl, J⟩
            obtain ⟨hc, hf⟩ := bcell J
            go_wp2_with fail
            go_ret
            exact ⟨rfl, bw_trans BW J⟩
          · go_wp2_with fail
            refine (has_ok _ _ _ _ _ _ _ gs gq).mono ?_
            rw [hh]
            rintro e w1 ⟨rfl, J⟩
            obtain ⟨hc, hf⟩ := bcell J
            rcases threeP qx ax qy ay with a1 | ⟨a1, b1⟩ | ⟨a1, b1⟩
            · skip
              rcases threeP qx bx qy b_y with a2 | ⟨a2, b2⟩ | ⟨a2, b2⟩
              · have nA : ¬ (qx = ax ∧ qy = ay) := by simp at a1; omega
                have nB : ¬ (qx = bx ∧ qy = b_y) := by simp at a2; omega
                have g1 : sgB ax ay qx qy = true := by rw [sgB_iff]; rw [ptB_iff] at pa gq; omega
                have g2 : sgB qx qy bx b_y = true := by rw [sgB_iff]; rw [ptB_iff] at pb gq; omega
                have mp := meet_parts hd hh nA nB hm
                clear nA nB
                cases m1 : meetC ax ay qx qy cx cy ex ey
                · rw [m1] at mp
                  have m2 : meetC qx qy bx b_y cx cy ex ey = true := by simpa using mp
                  clear mp
                  go_wp2_with fail
                  refine (meet_ok _ _ _ _ _ _ _ _ _ g1 gt).mono ?_
                  rw [m1]
                  rintro e w1 ⟨rfl, J2⟩
                  replace J := bw_trans J J2
                  clear hc hf J2
                  obtain ⟨hc, hf⟩ := bcell J
                  go_wp2_with fail
                  refine (meet_ok _ _ _ _ _ _ _ _ _ g2 gt).mono ?_
                  rw [m2]
                  rintro e w1 ⟨rfl, J2⟩
                  replace J := bw_trans J J2
                  clear hc hf J2
                  obtain ⟨hc, hf⟩ := bcell J
                  go_wp2_with fail
                  go_ret
                  exact ⟨rfl, bw_trans BW J⟩
                · go_wp2_with fail
                  refine (meet_ok _ _ _ _ _ _ _ _ _ g1 gt).mono ?_
                  rw [m1]
                  rintro e w1 ⟨rfl, J2⟩
                  replace J := bw_trans J J2
                  clear hc hf J2
                  obtain ⟨hc, hf⟩ := bcell J
                  go_wp2_with fail
                  go_ret
                  exact ⟨rfl, bw_trans BW J⟩
              · have nA : ¬ (qx = ax ∧ qy = ay) := by simp at a1; omega
                have nB : ¬ (qx = bx ∧ qy = b_y) := by simp at b2; omega
                have g1 : sgB ax ay qx qy = true := by rw [sgB_iff]; rw [ptB_iff] at pa gq; omega
                have g2 : sgB qx qy bx b_y = true := by rw [sgB_iff]; rw [ptB_iff] at pb gq; omega
                have mp := meet_parts hd hh nA nB hm
                clear nA nB
                subst a2
                cases m1 : meetC ax ay qx qy cx cy ex ey
                · rw [m1] at mp
                  have m2 : meetC qx qy qx b_y cx cy ex ey = true := by simpa using mp
                  clear mp
                  go_wp2_with fail
                  refine (meet_ok _ _ _ _ _ _ _ _ _ g1 gt).mono ?_
                  rw [m1]
                  rintro e w1 ⟨rfl, J2⟩
                  replace J := bw_trans J J2
                  clear hc hf J2
                  obtain ⟨hc, hf⟩ := bcell J
                  go_wp2_with fail
                  refine (meet_ok _ _ _ _ _ _ _ _ _ g2 gt).mono ?_
                  rw [m2]
                  rintro e w1 ⟨rfl, J2⟩
                  replace J := bw_trans J J2
                  clear hc hf J2
                  obtain ⟨hc, hf⟩ := bcell J
                  go_wp2_with fail
                  go_ret
                  exact ⟨rfl, bw_trans BW J⟩
                · go_wp2_with fail
                  refine (meet_ok _ _ _ _ _ _ _ _ _ g1 gt).mono ?_
                  rw [m1]
                  rintro e w1 ⟨rfl, J2⟩
                  replace J := bw_trans J J2
                  clear hc hf J2
                  obtain ⟨hc, hf⟩ := bcell J
                  go_wp2_with fail
                  go_ret
                  exact ⟨rfl, bw_trans BW J⟩
              · subst a2 b2
                go_wp2_with fail
                go_ret
                exact ⟨rfl, bw_trans BW J⟩
            · skip
              rcases threeP qx bx qy b_y with a2 | ⟨a2, b2⟩ | ⟨a2, b2⟩
              · have nA : ¬ (qx = ax ∧ qy = ay) := by simp at b1; omega
                have nB : ¬ (qx = bx ∧ qy = b_y) := by simp at a2; omega
                have g1 : sgB ax ay qx qy = true := by rw [sgB_iff]; rw [ptB_iff] at pa gq; omega
                have g2 : sgB qx qy bx b_y = true := by rw [sgB_iff]; rw [ptB_iff] at pb gq; omega
                have mp := meet_parts hd hh nA nB hm
                clear nA nB
                subst a1
                cases m1 : meetC qx ay qx qy cx cy ex ey
                · rw [m1] at mp
                  have m2 : meetC qx qy bx b_y cx cy ex ey = true := by simpa using mp
                  clear mp
                  go_wp2_with fail
                  refine (meet_ok _ _ _ _ _ _ _ _ _ g1 gt).mono ?_
                  rw [m1]
                  rintro e w1 ⟨rfl, J2⟩
                  replace J := bw_trans J J2
                  clear hc hf J2
                  obtain ⟨hc, hf⟩ := bcell J
                  go_wp2_with fail
                  refine (meet_ok _ _ _ _ _ _ _ _ _ g2 gt).mono ?_
                  rw [m2]
                  rintro e w1 ⟨rfl, J2⟩
                  replace J := bw_trans J J2
                  clear hc hf J2
                  obtain ⟨hc, hf⟩ := bcell J
                  go_wp2_with fail
                  go_ret
                  exact ⟨rfl, bw_trans BW J⟩
                · go_wp2_with fail
                  refine (meet_ok _ _ _ _ _ _ _ _ _ g1 gt).mono ?_
                  rw [m1]
                  rintro e w1 ⟨rfl, J2⟩
                  replace J := bw_trans J J2
                  clear hc hf J2
                  obtain ⟨hc, hf⟩ := bcell J
                  go_wp2_with fail
                  go_ret
                  exact ⟨rfl, bw_trans BW J⟩
              · exfalso; omega
              · exfalso; omega
            · subst a1 b1
              go_wp2_with fail
              go_ret
              exact ⟨rfl, bw_trans BW J⟩
end Go.Proofs.Ytmjbfocghlhecaa
