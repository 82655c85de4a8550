/-
  OUR OWN TEXT. The law FnPlateFill, walked: whatever bytes come in, it answers true and writes nothing that was there.
-/
import Derived.Test.YthedlopfjlnogaaDrawPlate3
import Derived.Test.YthedlopfjlnogaaPlateC
import Derived.Test.YthedlopfjlnogaaSPlateIn
import Derived.Test.YthedlopfjlnogaaPlateP
import Derived.Test.YthedlopfjlnogaaIn
namespace Go.Proofs.Ythedlopfjlnogaa
open Go.RowKit Go.Sort

theorem plInV_ok {o : List P2} {hs : List (List P2)} {p : P2} (h : plV o hs = true) (hp : ptB p.1 p.2 = true) : plInV o hs p = plI o hs p := by unfold plInV; rw [h, hp]; rfl
theorem plInV_no {o : List P2} {hs : List (List P2)} {p : P2} (h : plV o hs = false) : plInV o hs p = -1 := by unfold plInV; rw [h]; rfl
theorem inV_ok {l : List P2} {p : P2} (h : okV l = true) (hp : ptB p.1 p.2 = true) : inV l p = inI l p := by unfold inV; rw [h, hp]; rfl
theorem Plt.less {W : World} {a ah : Option Addr} {la m : Nat} {o x : List P2} {hs : List (List P2)} (h : Plt W a la ah (m + 1) o (hs ++ [x])) : Plt W a la ah m o hs := by
  obtain ⟨h1, h2, h3, A, L, C, h4, h5⟩ := h
  have hm : hs.length = m := by simpa using h3
  refine ⟨h1, h2, hm, A, L, C, ?_, fun j hj => ?_⟩
  · rcases h4 with h | ⟨b, off, e, hb, hc⟩
    · omega
    · exact .inr ⟨b, off, e, hb, fun j hj => hc j (by omega)⟩
  · have := h5 j (by omega)
    rwa [List.getElem?_append_left (by omega)] at this
set_option maxRecDepth 100000 in
set_option maxHeartbeats 4000000 in
theorem plateFill_walk (w : World) (a0 : Option Addr) (len0 cap0 : Nat) (z0 : List Int) (r0 : IsRow .u8 w a0 len0 cap0 z0) :
    Calls Try.prog 5 #[.slice a0 len0 cap0] w fun e w' => e = .returned (.bool true) ∧ Below w.heap.size w w' := by
  by_cases hl : 1048576 < len0
  · go_enter Try.func5, Try.ntmps5
    go_wp2
    go_ret
    exact ⟨rfl, bw_refl _⟩
  have hl0 : len0 ≤ 1048576 := by omega
  clear hl
  have heq : ∀ b : Int, (b == b) = true := by simp
  go_enter Try.func5, Try.ntmps5
  go_wp2_with fail
  refine (drawPlateIn_any w _ r0 (bw_refl _)).mono ?_
  rintro e w1 ⟨⟨g, n, c, l⟩, hv, hs, x, y, he, hPB, hD, ⟨hs3, hst⟩, J1⟩
  obtain rfl : e = .returned (.tuple #[.agg #[.slice (some ⟨g, 0, none⟩) n c, hv], .agg #[.int .i64 x, .int .i64 y]]) := he
  obtain ⟨gh, ch, rfl⟩ : ∃ gh ch, hv = .slice (some ⟨gh, 0, none⟩) hs.length ch := own_seat hD.2.2.1 hst
  obtain ⟨W, hW, BW, T, T2⟩ := boxes2 w1 (.cells #[.slice (some ⟨g, 0, none⟩) n c, .slice (some ⟨gh, 0, none⟩) hs.length ch] 26) (.cells #[.int .i64 x, .int .i64 y] 33)
  replace hD := hD.below BW
  have K := bw_trans J1 BW
  go_upto_region 5 with fail
  rw [← hW]
  clear hW BW J1
  have hcap : hs.length ≤ ch := by
    rcases hD.2.2.1.2 with ⟨e, _⟩ | ⟨g', c', cur, e, _, _, h1, _⟩
    · cases e
    · cases e; exact h1
  have hPl := hD.plt
  obtain ⟨t0, t1⟩ := blk_2 T
  obtain ⟨u0, u1⟩ := blk_2 T2
  go_wp2_with fail
  refine (plateIn_any _ _ n c hs.length ch l _ (x, y) _ hPl).mono ?_
  rintro e w2 ⟨rfl, J⟩
  replace K := bw_trans K J
  replace T := keep J T
  replace T2 := keep J T2
  replace hD := hD.below J
  replace hPl := hPl.below J
  clear J t0 t1 u0 u1
  obtain ⟨t0, t1⟩ := blk_2 T
  obtain ⟨u0, u1⟩ := blk_2 T2
  go_wp2_with fail
  refine (sPlateIn_any _ _ n c hs.length ch l _ (x, y) _ hPl).mono ?_
  rintro e w3 ⟨rfl, J⟩
  replace K := bw_trans K J
  replace T := keep J T
  replace T2 := keep J T2
  replace hD := hD.below J
  replace hPl := hPl.below J
  clear J t0 t1 u0 u1
  obtain ⟨t0, t1⟩ := blk_2 T
  obtain ⟨u0, u1⟩ := blk_2 T2
  cases hv : plV l (hs.map LoopT.l)
  case false =>
    go_wp2_with fail
    refine (sPlateOk_any _ _ n c hs.length ch l _ _ hPl).mono ?_
    rw [hv]
    rintro e w4 ⟨rfl, J⟩
    replace K := bw_trans K J
    replace hPl := hPl.below J
    obtain ⟨t0, t1⟩ := blk_2 (keep J T)
    obtain ⟨u0, u1⟩ := blk_2 (keep J T2)
    go_wp2_with fail
    refine (sPlateIn_any _ _ n c hs.length ch l _ (x, y) _ hPl).mono ?_
    rintro e w5 ⟨rfl, J⟩
    go_wp2_with fail
    go_ret
    exact ⟨rfl, bw_trans K J⟩
  go_wp2_with fail
  refine (sPlateOk_any _ _ n c hs.length ch l _ _ hPl).mono ?_
  rw [hv]
  rintro e w4 ⟨rfl, J⟩
  replace K := bw_trans K J
  replace T := keep J T
  replace T2 := keep J T2
  replace hD := hD.below J
  replace hPl := hPl.below J
  clear J t0 t1 u0 u1
  obtain ⟨t0, t1⟩ := blk_2 T
  obtain ⟨u0, u1⟩ := blk_2 T2
  cases hp : ptB x y
  case false =>
    go_wp2_with fail
    refine (sPt_any x y _).mono ?_
    rw [hp]
    rintro e w5 ⟨rfl, J⟩
    replace K := bw_trans K J
    replace hPl := hPl.below J
    obtain ⟨t0, t1⟩ := blk_2 (keep J T)
    obtain ⟨u0, u1⟩ := blk_2 (keep J T2)
    go_wp2_with fail
    refine (sPlateIn_any _ _ n c hs.length ch l _ (x, y) _ hPl).mono ?_
    rintro e w6 ⟨rfl, J⟩
    go_wp2_with fail
    go_ret
    exact ⟨rfl, bw_trans K J⟩
  go_wp2_with fail
  refine (sPt_any x y _).mono ?_
  rw [hp]
  rintro e w5 ⟨rfl, J⟩
  replace K := bw_trans K J
  replace T := keep J T
  replace T2 := keep J T2
  replace hD := hD.below J
  replace hPl := hPl.below J
  clear J t0 t1 u0 u1
  obtain ⟨t0, t1⟩ := blk_2 T
  obtain ⟨u0, u1⟩ := blk_2 T2
  rcases List.eq_nil_or_concat hs with rfl | ⟨hs', t, hhs⟩
  · go_wp2_with fail
    refine (sPlateIn_any _ _ n c 0 ch l _ (x, y) _ hPl).mono ?_
    rintro e w6 ⟨rfl, J⟩
    go_wp2_with fail
    go_ret
    exact ⟨rfl, bw_trans K J⟩
  rw [List.concat_eq_append] at hhs
  obtain ⟨gt, nt, ct, lt⟩ := t
  obtain ⟨m, hm⟩ : ∃ m, hs'.length = m := ⟨_, rfl⟩
  have hml : hs.length = m + 1 := by rw [hhs]; simp [hm]
  have htk := hD.2.2.2 ⟨gt, nt, ct, lt⟩ (by rw [hhs]; simp)
  have hcell := own_news hD.2.2.1 (j := m) (u := .slice (some ⟨gt, 0, none⟩) nt ct) (by rw [hhs]; simp [← hm, LoopT.v])
  rw [show ((⟨gh, 0, none⟩ : Addr).add m) = ⟨gh, m, none⟩ by unfold Addr.add; split <;> simp_all] at hcell
  have hmap : hs.map LoopT.l = hs'.map LoopT.l ++ [lt] := by rw [hhs]; simp
  have hvin : plInV l (hs.map LoopT.l) (x, y) = plI l (hs'.map LoopT.l ++ [lt]) (x, y) := by rw [plInV_ok hv hp, hmap]
  rw [hmap, hml] at hPl
  have hPq := hPl.less
  rw [hmap] at hv
  have hF := fill (p := (x, y)) hv
  have hv' : plV l (hs'.map LoopT.l) = true := by have := plV_less hv; rwa [List.dropLast_concat] at this
  have hok : okV lt = true := ((plV_iff _ _).1 hv).ok lt (by simp)
  have hvq : plInV l (hs'.map LoopT.l) (x, y) = plI l (hs'.map LoopT.l) (x, y) := plInV_ok hv' hp
  have hvl : inV lt (x, y) = inI lt (x, y) := inV_ok hok hp
  obtain ⟨k1, k2, k3, k4, k5, k6, k7⟩ := htk
  have hPt := blk_pts k7 k3
  have k2' : nt ≤ 1048576 := by have : nt ≤ 8 := k2; omega
  have e3 := inI_3 lt (x, y)
  have hm3 : (m : Int) ≤ 3 := by omega
  rw [hml] at T t1 hcap
  rw [hml, hvin]
  clear hvin hhs hD hst hs3 k1 k2 k3 k4 k5 k6 k7 hPB hPl hv hv' hok hmap hml
  generalize plI l (hs'.map LoopT.l ++ [lt]) (x, y) = uin at *
  generalize inI lt (x, y) = ul at *
  generalize plI l (hs'.map LoopT.l) (x, y) = uq at *
  have i0 : (0 : Int) ≤ (m : Int) := Int.natCast_nonneg _
  have i1 : (m : Int) < (m : Int) + 1 := by omega
  have i2 : (m : Int) ≤ (ch : Int) := by omega
  have i3 : ((m : Int) + 1 == 0) = false := by simp; omega
  have i4 : (ch = 0) = False := by simp; omega
  have zp5 := blk_lt T
  have nw0 := World.new_ne w5 _ t0
  have nw1 := World.new_ne w5 _ t1
  go_wp2_with fail
  go_region_held3 (fun w' => w'.cell? ⟨w1.heap.size, 0, none⟩ = some (.slice (some ⟨g, 0, none⟩) n c) ∧ w'.cell? ⟨w1.heap.size, 1, none⟩ = some (.slice (some ⟨gh, 0, none⟩) (m + 1) ch)) (go_keep) (fail)
  have BQ : Below w5.heap.size w5 (w5.alloc (.cells #[.slice (some ⟨g, 0, none⟩) n c, .slice (some ⟨gh, 0, none⟩) m ch] 26)).drew := (by repeat (first | exact bw_refl _ | assumption | apply bw_drewN | apply bw_drew | apply bw_alloc | refine bw_set ?_ (by simp) _))
  have Q : (w5.alloc (.cells #[.slice (some ⟨g, 0, none⟩) n c, .slice (some ⟨gh, 0, none⟩) m ch] 26)).drew.heap[w5.heap.size]? = some (.cells #[.slice (some ⟨g, 0, none⟩) n c, .slice (some ⟨gh, 0, none⟩) m ch] 26 (0, 0)) := heap_new w5 _
  replace K := bw_trans K BQ
  replace T2 := keep BQ T2
  replace hPq := hPq.below BQ
  replace hPt := (hPt.below BQ).grow BQ.size
  clear u0 u1 t0 t1 nw0 nw1
  generalize (w5.alloc (.cells #[.slice (some ⟨g, 0, none⟩) n c, .slice (some ⟨gh, 0, none⟩) m ch] 26)).drew = v5 at *
  obtain ⟨u0, u1⟩ := blk_2 T2
  go_wp2_with fail
  refine (in_any' (some ⟨gt, 0, none⟩) nt ct lt (x, y) k2' _ hPt).mono ?_
  rw [hvl]
  rintro e w6 ⟨rfl, J⟩
  replace K := bw_trans K J
  replace T2 := keep J T2
  replace hPq := hPq.below J
  replace hPt := (hPt.below J).grow J.size
  replace Q := keep J Q
  clear u0 u1 BQ J
  obtain ⟨u0, u1⟩ := blk_2 T2
  obtain ⟨q0, q1⟩ := blk_2 Q
  by_cases hge : 0 ≤ ul
  · obtain ⟨f1, f2⟩ := hF.1 hge
    have nl : IntKind.i64.wrap (-ul) = -ul := wrap_small (by omega) (by omega)
    have hb : (uin == -ul) = true := by simpa using f1
    have hb2 : (uq == 1) = true := by simpa using f2
    go_wp2_with fail
    refine (in_any' (some ⟨gt, 0, none⟩) nt ct lt (x, y) k2' _ hPt).mono ?_
    rw [hvl]
    rintro e w7 ⟨rfl, J⟩
    replace K := bw_trans K J
    replace T2 := keep J T2
    replace hPq := hPq.below J
    replace hPt := (hPt.below J).grow J.size
    replace Q := keep J Q
    clear u0 u1 q0 q1 J
    obtain ⟨u0, u1⟩ := blk_2 T2
    obtain ⟨q0, q1⟩ := blk_2 Q
    go_wp2_with fail
    refine (plateIn_any _ _ n c m ch l _ (x, y) _ hPq).mono ?_
    rw [hvq]
    rintro e w8 ⟨rfl, J⟩
    go_wp2_with fail
    go_ret
    exact ⟨by first | rfl | simp [f2] | simp, bw_trans K J⟩
  · have f1 := hF.2 (by omega)
    have hb : (uq == uin) = true := by simp [f1]
    go_wp2_with fail
    refine (plateIn_any _ _ n c m ch l _ (x, y) _ hPq).mono ?_
    rw [hvq]
    rintro e w7 ⟨rfl, J⟩
    go_wp2_with fail
    go_ret
    exact ⟨by first | rfl | simp [f1] | simp, bw_trans K J⟩
end Go.Proofs.Ythedlopfjlnogaa
