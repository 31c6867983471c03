/- Package circle: fits and Fits. -/
import Derived.Test.YtebdboacmeafaaaGreatCI2
import Derived.Test.YtebdboacmeafaaaGreatCG5
set_option linter.unusedVariables false
set_option linter.unusedSimpArgs false
namespace Go.Proofs.YtebdboacmeafaaaGreat
open Go Go.RowKit

/-- One of some zeros can be when those before it can be. -/
def fiB (dr : Int) (L : List Th) (zt : Int) (zl : List Int) (i : Nat) : Bool :=
  ciB (zl.getD i 0) (spLo dr L (zt + i)) (spHi dr L (zt + i)) && (List.range i).all fun k => decide (max (zl.getD i 0 - zl.getD k 0) (zl.getD k 0 - zl.getD i 0) ≤ frI dr (zt + k) (zt + i))
theorem fiB_no {dr : Int} {L : List Th} {zt : Int} {zl : List Int} {i k : Nat} (hk : k < i) (h : frI dr (zt + k) (zt + i) < max (zl.getD i 0 - zl.getD k 0) (zl.getD k 0 - zl.getD i 0)) : fiB dr L zt zl i = false := by
  unfold fiB
  rw [Bool.and_eq_false_iff]
  refine .inr ?_
  rw [List.all_eq_false]
  exact ⟨k, List.mem_range.2 hk, by rw [decide_eq_false (by omega)]; simp⟩
theorem fiB_yes {dr : Int} {L : List Th} {zt : Int} {zl : List Int} {i : Nat} (hb : ciB (zl.getD i 0) (spLo dr L (zt + i)) (spHi dr L (zt + i)) = true) (h : ∀ k, k < i → max (zl.getD i 0 - zl.getD k 0) (zl.getD k 0 - zl.getD i 0) ≤ frI dr (zt + k) (zt + i)) : fiB dr L zt zl i = true := by
  unfold fiB
  rw [hb, Bool.true_and, List.all_eq_true]
  intro k hk
  have := h k (List.mem_range.1 hk)
  exact decide_eq_true (by omega)
/-- The worlds and frames in a region. -/
def FiInv (W1 : World) (wz k : Nat) (Zi Zk M zt TK T F : Int) (di dx dy df dt dl dh dr : Int) (dv : Value) (u0 u1 u2 u5 u6 u9 u12 u13 u14 u15 u16 u17 u18 u19 u20 u21 u22 u23 u24 u25 u26 u27 u28 u29 u30 u31 u32 u33 u34 u35 u36 u37 u38 u39 u40 u41 u42 u43 u44 u45 u46 u47 u48 u49 u50 u51 u52 u53 u54 u55 u56 u57 : Value) (listed : Array Bool) (a : Act) (w' : World) : Prop :=
  ∃ (l0 l1 l2 l3 l4 l5 l6 l7 l8 l9 l10 l11 l12 l13 l14 l15 : Bool) (A : Nat), listed = #[l0, l1, l2, l3, l4, l5, l6, l7, l8, l9, l10, l11, l12, l13, l14, l15] ∧ a = { tmps := #[u0, u1, u2, .pointer (some ⟨wz, 0, none⟩), .pointer (some ⟨wz + 1, 0, none⟩), u5, u6, .int .i64 Zi, .int .i64 T, u9, .int .i64 (k : Nat), .int .i64 Zk, u12, u13, u14, u15, u16, u17, u18, u19, u20, u21, u22, u23, u24, u25, u26, u27, u28, u29, u30, u31, u32, u33, u34, u35, u36, u37, u38, u39, u40, pkIf l0 (.int .i64 Zi) (u41), pkIf l1 (.int .i64 Zk) (u42), pkIf l2 (.int .i64 (Zi - Zk)) (u43), pkIf l3 (.int .i64 Zk) (u44), pkIf l4 (.int .i64 Zi) (u45), pkIf l5 (.int .i64 (Zk - Zi)) (u46), pkIf l6 (.slice (some ⟨A, 0, none⟩) 1 1) (u47), pkIf l7 (.int .i64 M) (u48), pkIf l8 (.agg #[.int .i64 di, .int .i64 dx, .int .i64 dy, .int .i64 df, .int .i64 dt, .int .i64 dl, .int .i64 dh, .int .i64 dr, dv]) (u49), pkIf l9 (.pointer (some ⟨wz + 1, 1, none⟩)) (u50), pkIf l10 (.int .i64 zt) (u51), pkIf l11 (.int .i64 (k : Nat)) (u52), pkIf l12 (.int .i64 TK) (u53), pkIf l13 (.int .i64 T) (u54), pkIf l14 (.int .i64 F) (u55), pkIf l15 (.bool (decide (F < M))) (u56), u57], defers := [] } ∧ Below W1.heap.size W1 w' ∧ (l6 = true → W1.heap.size ≤ A ∧ w'.heap[A]? = some (.cells #[.int .i64 (Zk - Zi)] 3 (0, 0)))
set_option maxRecDepth 100000 in
set_option maxHeartbeats 8000000 in
theorem fits_any (z : Ci) (v zv : Value) (L : List Th) (zc zt : Int) (zl : List Int) (i : Nat) (w : World) (hv : ThRow w v L) (hl : L.length ≤ 100) (hd : 0 ≤ z.dr ∧ z.dr ≤ 60) (hok : ∀ h ∈ L, h.ok) (hz : INRow w zv zl) (hcap : P2Cap zv) (hzl : zl.length ≤ 1000) (hi : i < zl.length) (h0 : 0 ≤ zt) (h1 : zt + i ≤ 1048576) (hp : ∀ k, k < i → -300 ≤ zl.getD k 0 ∧ zl.getD k 0 ≤ 300) :
    Calls Tryz.prog 64 #[dlV z v, .agg #[.int .i64 zc, .int .i64 zt, zv], .int .i64 i] w fun e w' => e = .returned (.bool (fiB z.dr L zt zl i)) ∧ Below w.heap.size w w' := by
  obtain ⟨za, zcp, rfl, hcz⟩ := hz.form
  have hnc : zl.length ≤ zcp := by
    obtain ⟨a0, n0, c0, hv0, h⟩ := hcap
    cases hv0; exact h
  have HCZ := Lib.hid hcz
  have HSP := Lib.hid (fun w' (h : Below w.heap.size w w') => span_any z v L (zt + i) w' (hv.keep h) hl hd ⟨by omega, by omega⟩ hok)
  have HSB := Lib.hid (sp_bd (dr := z.dr) (l := L) (t := zt + i) hd ⟨by omega, by omega⟩ hok)
  have HFA := Lib.hid (fun s w' (hs : 0 ≤ s ∧ s ≤ 1048576) => far_any z v s (zt + i) w' hd hs ⟨by omega, by omega⟩)
  have HNO := Lib.hid (fun k hk h => fiB_no (dr := z.dr) (L := L) (zt := zt) (zl := zl) (i := i) (k := k) hk h)
  have HYE := Lib.hid (fun hb h => fiB_yes (dr := z.dr) (L := L) (zt := zt) (zl := zl) (i := i) hb h)
  have HN0 : Hid (ciB (zl.getD i 0) (spLo z.dr L (zt + i)) (spHi z.dr L (zt + i)) = false → fiB z.dr L zt zl i = false) := Lib.hid (fun h => by unfold fiB; rw [h]; rfl)
  have HPR := Lib.hid hp
  have HBI := Lib.hid (show i < zl.length ∧ zl.length ≤ 1000 ∧ zl.length ≤ zcp ∧ 0 ≤ zt ∧ zt + i ≤ 1048576 from ⟨hi, hzl, hnc, h0, h1⟩)
  have hcI := hcz i hi
  obtain ⟨R, hR⟩ : ∃ q, fiB z.dr L zt zl i = q := ⟨_, rfl⟩
  obtain ⟨T, hT⟩ : ∃ q, zt + (i : Int) = q := ⟨_, rfl⟩
  obtain ⟨Zi, hZi⟩ : ∃ q, zl.getD i 0 = q := ⟨_, rfl⟩
  have HTT := Lib.hid hT
  rw [hR, hT, hZi] at HNO HYE HN0
  rw [hT] at HSP HSB HFA
  rw [hZi] at hcI
  rw [hR]
  obtain ⟨SL, hSL⟩ : ∃ q, spLo z.dr L T = q := ⟨_, rfl⟩
  obtain ⟨SH, hSH⟩ : ∃ q, spHi z.dr L T = q := ⟨_, rfl⟩
  rw [hSL, hSH] at HSP HSB HYE HN0
  have HWI := Lib.hid (fun w' => qwithin_any Zi SL SH w')
  have HCB := Lib.hid (fun h => ci_iff (n := Zi) (a := SL) (b := SH) |>.1 h)
  obtain ⟨CB, hCB⟩ : ∃ q, ciB Zi SL SH = q := ⟨_, rfl⟩
  rw [hCB] at HWI HYE HN0 HCB
  obtain ⟨di, dx, dy, df, dt, dl, dh, dr⟩ := z
  obtain ⟨b0, off0, rfl, hb0, e0⟩ := hcI
  have ht1 : IntKind.i64.wrap (zt + (i : Int)) = T := by rw [hT]; exact IntWalk.i64_in _ (by omega)
  have HC0 := Lib.hid (show b0 < w.heap.size ∧ w.cell? ⟨b0, off0 + i, none⟩ = some (.int .i64 Zi) from ⟨hb0, e0⟩)
  simp only at HFA HNO HYE
  clear hv hl hok hz hcap hzl hi h0 h1 hp hcz hR hT hZi hSL hSH hCB hb0 e0 hnc hd
  obtain ⟨x0, x1, xlt, xb⟩ := two_cells w #[.int .i64 di, .int .i64 dx, .int .i64 dy, .int .i64 df, .int .i64 dt, .int .i64 dl, .int .i64 dh, .int .i64 dr, v] #[.int .i64 zc, .int .i64 zt, .slice (some ⟨b0, off0, none⟩) zl.length zcp] 119 38 (Below.refl _ _)
  have HNd : Hid (((w.alloc (.cells #[.int .i64 di, .int .i64 dx, .int .i64 dy, .int .i64 df, .int .i64 dt, .int .i64 dl, .int .i64 dh, .int .i64 dr, v] 119)).alloc (.cells #[.int .i64 zc, .int .i64 zt, .slice (some ⟨b0, off0, none⟩) zl.length zcp] 38)).heap[w.heap.size]? = some (.cells #[.int .i64 di, .int .i64 dx, .int .i64 dy, .int .i64 df, .int .i64 dt, .int .i64 dl, .int .i64 dh, .int .i64 dr, v] 119 (0, 0))) := Lib.hid x0
  have HNz : Hid (((w.alloc (.cells #[.int .i64 di, .int .i64 dx, .int .i64 dy, .int .i64 df, .int .i64 dt, .int .i64 dl, .int .i64 dh, .int .i64 dr, v] 119)).alloc (.cells #[.int .i64 zc, .int .i64 zt, .slice (some ⟨b0, off0, none⟩) zl.length zcp] 38)).heap[w.heap.size + 1]? = some (.cells #[.int .i64 zc, .int .i64 zt, .slice (some ⟨b0, off0, none⟩) zl.length zcp] 38 (0, 0))) := Lib.hid x1
  have HB : Hid (Below w.heap.size w ((w.alloc (.cells #[.int .i64 di, .int .i64 dx, .int .i64 dy, .int .i64 df, .int .i64 dt, .int .i64 dl, .int .i64 dh, .int .i64 dr, v] 119)).alloc (.cells #[.int .i64 zc, .int .i64 zt, .slice (some ⟨b0, off0, none⟩) zl.length zcp] 38))) := Lib.hid xb
  obtain ⟨Z, hZ⟩ : ∃ Z, ((w.alloc (.cells #[.int .i64 di, .int .i64 dx, .int .i64 dy, .int .i64 df, .int .i64 dt, .int .i64 dl, .int .i64 dh, .int .i64 dr, v] 119)).alloc (.cells #[.int .i64 zc, .int .i64 zt, .slice (some ⟨b0, off0, none⟩) zl.length zcp] 38)) = Z := ⟨_, rfl⟩
  rw [hZ] at HB HNd HNz
  have HZ := Lib.hid hZ
  clear hZ xlt xb x0 x1
  go_enter Tryz.func64, Tryz.ntmps64
  have hq := HBI.out
  have e0 := (HB.out.cell (p := ⟨b0, _, none⟩) HC0.out.1).trans HC0.out.2
  have hi1 : (i : Int) < zl.length := by omega
  have hi0 : (0 : Int) ≤ i := by omega
  have zz0 := cellH HNz.out 0
  have zz1 := cellH HNz.out 1
  have zz2 := cellH HNz.out 2
  simp only [List.getElem?_toArray, List.getElem?_cons_zero, List.getElem?_cons_succ] at zz0 zz1 zz2
  go_wp2_with fail
  rw [HZ.out]
  go_quiet (fail)
  obtain ⟨wq, hwq⟩ : ∃ q, Z.drewN nq = q := ⟨_, rfl⟩
  have hbq : Below Z.heap.size Z wq := by rw [← hwq]; exact belowN (Below.refl _ _) _
  rw [hwq]
  clear hwq
  clear zz0 zz1 zz2
  clear e0 ht1 hi1 hi0 hq
  replace HB := Lib.hid (HB.out.trans (hbq.mono HB.out.size))
  replace HNd := Lib.hid ((hbq.block _ (Array.getElem?_eq_some_iff.1 HNd.out).1).trans HNd.out)
  replace HNz := Lib.hid ((hbq.block _ (Array.getElem?_eq_some_iff.1 HNz.out).1).trans HNz.out)
  clear hbq
  have zd0 := cellH HNd.out 0
  have zd1 := cellH HNd.out 1
  have zd2 := cellH HNd.out 2
  have zd3 := cellH HNd.out 3
  have zd4 := cellH HNd.out 4
  have zd5 := cellH HNd.out 5
  have zd6 := cellH HNd.out 6
  have zd7 := cellH HNd.out 7
  have zd8 := cellH HNd.out 8
  simp only [List.getElem?_toArray, List.getElem?_cons_zero, List.getElem?_cons_succ] at zd0 zd1 zd2 zd3 zd4 zd5 zd6 zd7 zd8
  go_wp2_with fail
  refine (HSP.out _ HB.out).mono ?_
  rintro e w1 ⟨rfl, hb⟩
  clear zd0 zd1 zd2 zd3 zd4 zd5 zd6 zd7 zd8
  replace HB := Lib.hid (HB.out.trans (hb.mono HB.out.size))
  replace HNd := Lib.hid ((hb.block _ (Array.getElem?_eq_some_iff.1 HNd.out).1).trans HNd.out)
  replace HNz := Lib.hid ((hb.block _ (Array.getElem?_eq_some_iff.1 HNz.out).1).trans HNz.out)
  clear hb
  have hAlc : Below w1.heap.size w1 (w1.alloc (.cells #[.int .i64 SL, .int .i64 SH] 36)) := (Below.refl _ w1).alloc (Nat.le_refl _) _
  have HSsp : Hid (w.heap.size ≤ w1.heap.size) := Lib.hid HB.out.size
  have HNsp : Hid ((w1.alloc (.cells #[.int .i64 SL, .int .i64 SH] 36)).heap[w1.heap.size]? = some (.cells #[.int .i64 SL, .int .i64 SH] 36 (0, 0))) := Lib.hid (heap_alloc_new _ _)
  replace HB := Lib.hid (HB.out.trans (hAlc.mono HB.out.size))
  have HXd_sp : Hid (w.heap.size ≠ w1.heap.size) := Lib.hid (Nat.ne_of_lt (Array.getElem?_eq_some_iff.1 HNd.out).1)
  have HXz_sp : Hid (w.heap.size + 1 ≠ w1.heap.size) := Lib.hid (Nat.ne_of_lt (Array.getElem?_eq_some_iff.1 HNz.out).1)
  replace HNd := Lib.hid ((hAlc.block _ (Array.getElem?_eq_some_iff.1 HNd.out).1).trans HNd.out)
  replace HNz := Lib.hid ((hAlc.block _ (Array.getElem?_eq_some_iff.1 HNz.out).1).trans HNz.out)
  obtain ⟨asp, hasp⟩ : ∃ qq, w1.alloc (.cells #[.int .i64 SL, .int .i64 SH] 36) = qq := ⟨_, rfl⟩
  obtain ⟨bksp, hbsp⟩ : ∃ qq, w1.heap.size = qq := ⟨_, rfl⟩
  rw [hasp] at HB HNsp HNd HNz
  rw [hbsp] at HNsp HSsp HXd_sp HXz_sp
  clear hAlc
  have zsp0 := cellH HNsp.out 0
  have zsp1 := cellH HNsp.out 1
  simp only [List.getElem?_toArray, List.getElem?_cons_zero, List.getElem?_cons_succ] at zsp0 zsp1
  go_wp2_with fail
  try clear hasp hbsp
  refine (HWI.out _).mono ?_
  rintro e w8 ⟨rfl, rfl⟩
  cases CB
  · have HN := Lib.hid (HN0.out rfl)
    go_wp2_with fail
    go_ret
    exact ⟨by rw [HN.out]; rfl, HB.out⟩
  · have hci := HCB.out rfl
    have HZB := Lib.hid (show -300 ≤ Zi ∧ Zi ≤ 300 by have := HSB.out; omega)
    replace HYE := Lib.hid (HYE.out rfl)
    have hq := HBI.out
    have hic : i ≤ zcp := by omega
    have hi0 : (0 : Int) ≤ i := by omega
    have hic2 : (i : Int) ≤ zcp := by omega
    clear hci HN0 HCB HSB
    clear zsp0 zsp1
    have zz0 := cellH HNz.out 0
    have zz1 := cellH HNz.out 1
    have zz2 := cellH HNz.out 2
    simp only [List.getElem?_toArray, List.getElem?_cons_zero, List.getElem?_cons_succ] at zz0 zz1 zz2
    go_wp2_with fail
    clear zz0 zz1 zz2
    clear HNsp
    clear hq hic hic2 hi0
    go_loopw [36] (fun x wr => ∃ (k : Nat), k ≤ i ∧ x = .int .i64 k ∧ Hid (∀ m, m < k → max (Zi - zl.getD m 0) (zl.getD m 0 - Zi) ≤ frI dr (zt + m) T) ∧ Hid (Below w.heap.size w wr) ∧ Hid (wr.heap[w.heap.size]? = some (.cells #[.int .i64 di, .int .i64 dx, .int .i64 dy, .int .i64 df, .int .i64 dt, .int .i64 dl, .int .i64 dh, .int .i64 dr, v] 119 (0, 0))) ∧ Hid (wr.heap[w.heap.size + 1]? = some (.cells #[.int .i64 zc, .int .i64 zt, .slice (some ⟨b0, off0, none⟩) zl.length zcp] 38 (0, 0)))) (fun x _ => i - (intOf x).toNat)
    case atStart => exact ⟨0, Nat.zero_le _, rfl, Lib.hid (fun m hm => by omega), HB, HNd, HNz⟩
    case round =>
      clear HB HNd HNz
      obtain ⟨k, hk, rfl, hN, HB, HNd, HNz⟩ := hrel
      have hq := HBI.out
      by_cases hkl : k < i
      · obtain ⟨b1, off1, hbe, hb1, c1⟩ := HCZ.out k (by omega)
        cases hbe
        have e1 := (HB.out.cell (p := ⟨b0, _, none⟩) hb1).trans c1
        have hki : (k : Int) < i := by omega
        have hk0 : (0 : Int) ≤ k := by omega
        have HKL := Lib.hid hkl
        have HP1 := HPR.out k hkl
        have HFK0 := Lib.hid (fun w' => HFA.out (zt + k) w' ⟨by omega, by omega⟩)
        have hTT := HTT.out
        have hfb : 0 ≤ frI dr (zt + k) T ∧ frI dr (zt + k) T ≤ 1048576 ∨ True := .inr trivial
        have HNK := Lib.hid (HNO.out k hkl)
        have HNX : Hid (max (Zi - zl.getD k 0) (zl.getD k 0 - Zi) ≤ frI dr (zt + k) T → ∀ m, m < k + 1 → max (Zi - zl.getD m 0) (zl.getD m 0 - Zi) ≤ frI dr (zt + m) T) := Lib.hid (fun h j hj => by
          by_cases e : j = k
          · subst e; exact h
          · exact hN.out j (by omega))
        obtain ⟨Zk, hZk⟩ : ∃ q, zl.getD k 0 = q := ⟨_, rfl⟩
        rw [hZk] at e1 HP1 HNK HNX
        obtain ⟨F, hF⟩ : ∃ q, frI dr (zt + k) T = q := ⟨_, rfl⟩
        rw [hF] at HFK0 HNK HNX
        obtain ⟨M, hM⟩ : ∃ q, max (Zi - Zk) (Zk - Zi) = q := ⟨_, rfl⟩
        rw [hM] at HNK HNX
        have hzb := HZB.out
        have gw1 : IntKind.i64.wrap (Zi - Zk) = Zi - Zk := IntWalk.i64_in _ (by omega)
        have gw2 : IntKind.i64.wrap (Zk - Zi) = Zk - Zi := IntWalk.i64_in _ (by omega)
        obtain ⟨TK, hTK⟩ : ∃ q, zt + (k : Int) = q := ⟨_, rfl⟩
        have gw3 : IntKind.i64.wrap (zt + (k : Int)) = TK := by rw [hTK]; exact IntWalk.i64_in _ (by omega)
        rw [hTK] at HFK0
        have hmx : maxL (Zi - Zk) [Zk - Zi] = M := hM
        have HGR : Hid (∀ (w' : World) (A : Nat), w'.heap[A]? = some (.cells #[.int .i64 (Zk - Zi)] 3 (0, 0)) → Calls Tryz.prog 76 #[.int .i64 (Zi - Zk), .slice (some ⟨A, 0, none⟩) 1 1] w' fun e w'' => e = .returned (.int .i64 M) ∧ w'' = w') := Lib.hid (fun w' A hA => by
          have h := greatest_any (Zi - Zk) _ [Zk - Zi] w' (row_one (Zk - Zi) hA) (by simp)
          rwa [hmx] at h)
        have HFK := Lib.hid (fun w' (h : Below wr.heap.size wr w') => HFK0.out w')
        clear hZk hF hM hTK hmx c1 hb1 hfb hTT HFK0 hq
        have HRD : Hid (∀ W', Below wr.heap.size wr W' → W'.cell? ⟨w.heap.size, 0, none⟩ = some (.int .i64 di) ∧ W'.cell? ⟨w.heap.size, 1, none⟩ = some (.int .i64 dx) ∧ W'.cell? ⟨w.heap.size, 2, none⟩ = some (.int .i64 dy) ∧ W'.cell? ⟨w.heap.size, 3, none⟩ = some (.int .i64 df) ∧ W'.cell? ⟨w.heap.size, 4, none⟩ = some (.int .i64 dt) ∧ W'.cell? ⟨w.heap.size, 5, none⟩ = some (.int .i64 dl) ∧ W'.cell? ⟨w.heap.size, 6, none⟩ = some (.int .i64 dh) ∧ W'.cell? ⟨w.heap.size, 7, none⟩ = some (.int .i64 dr) ∧ W'.cell? ⟨w.heap.size, 8, none⟩ = some (v) ∧ W'.cell? ⟨w.heap.size + 1, 0, none⟩ = some (.int .i64 zc) ∧ W'.cell? ⟨w.heap.size + 1, 1, none⟩ = some (.int .i64 zt) ∧ W'.cell? ⟨w.heap.size + 1, 2, none⟩ = some (.slice (some ⟨b0, off0, none⟩) zl.length zcp)) := Lib.hid (fun W' h => ⟨cellH ((h.block _ (Array.getElem?_eq_some_iff.1 HNd.out).1).trans HNd.out) 0, cellH ((h.block _ (Array.getElem?_eq_some_iff.1 HNd.out).1).trans HNd.out) 1, cellH ((h.block _ (Array.getElem?_eq_some_iff.1 HNd.out).1).trans HNd.out) 2, cellH ((h.block _ (Array.getElem?_eq_some_iff.1 HNd.out).1).trans HNd.out) 3, cellH ((h.block _ (Array.getElem?_eq_some_iff.1 HNd.out).1).trans HNd.out) 4, cellH ((h.block _ (Array.getElem?_eq_some_iff.1 HNd.out).1).trans HNd.out) 5, cellH ((h.block _ (Array.getElem?_eq_some_iff.1 HNd.out).1).trans HNd.out) 6, cellH ((h.block _ (Array.getElem?_eq_some_iff.1 HNd.out).1).trans HNd.out) 7, cellH ((h.block _ (Array.getElem?_eq_some_iff.1 HNd.out).1).trans HNd.out) 8, cellH ((h.block _ (Array.getElem?_eq_some_iff.1 HNz.out).1).trans HNz.out) 0, cellH ((h.block _ (Array.getElem?_eq_some_iff.1 HNz.out).1).trans HNz.out) 1, cellH ((h.block _ (Array.getElem?_eq_some_iff.1 HNz.out).1).trans HNz.out) 2⟩)
        go_wp2_with fail
        clear e1 hzb
        refine wp_region_invn (by kernel_rfl) (FiInv wr w.heap.size k Zi Zk M zt TK T F di dx dy df dt dl dh dr v _ _ _ _ _ _ _ _ _ _ _ _ _ _ _ _ _ _ _ _ _ _ _ _ _ _ _ _ _ _ _ _ _ _ _ _ _ _ _ _ _ _ _ _ _ _ _ _ _ _ _ _) ⟨false, false, false, false, false, false, false, false, false, false, false, false, false, false, false, false, 0, rfl, rfl, (Below.refl _ _).drew, (fun h => by cases h)⟩ ?hend ?hstep
        case hstep =>
          rintro listed a w' i ⟨l0, l1, l2, l3, l4, l5, l6, l7, l8, l9, l10, l11, l12, l13, l14, l15, A, rfl, rfl, hb, hA⟩ hi
          obtain ⟨hf, o', ho', hp⟩ := mem_ready.1 hi
          have hin : i < 16 := (Array.getElem?_eq_some_iff.1 ho').1
          clear hi
          obtain ⟨zd0, zd1, zd2, zd3, zd4, zd5, zd6, zd7, zd8, zz0, zz1, zz2⟩ := HRD.out w' hb
          match i, hin with
          | 0, _ =>
            obtain rfl : l0 = false := by simpa using hf
            clear hp ho'
            unfold wpOp
            simp only [pkIf_true]
            go_simp
            exact .inl ⟨true, l1, l2, l3, l4, l5, l6, l7, l8, l9, l10, l11, l12, l13, l14, l15, A, rfl, rfl, hb, hA⟩
          | 1, _ =>
            obtain rfl : l1 = false := by simpa using hf
            clear hp ho'
            unfold wpOp
            simp only [pkIf_true]
            go_simp
            exact .inl ⟨l0, true, l2, l3, l4, l5, l6, l7, l8, l9, l10, l11, l12, l13, l14, l15, A, rfl, rfl, hb, hA⟩
          | 2, _ =>
            obtain rfl : l2 = false := by simpa using hf
            cases ho'
            obtain rfl : l0 = true := by simpa using hp ⟨0, .data⟩ (by simp) rfl
            obtain rfl : l1 = true := by simpa using hp ⟨1, .data⟩ (by simp) rfl
            clear hp
            unfold wpOp
            simp only [pkIf_true]
            go_simp
            exact .inl ⟨true, true, true, l3, l4, l5, l6, l7, l8, l9, l10, l11, l12, l13, l14, l15, A, rfl, rfl, hb, hA⟩
          | 3, _ =>
            obtain rfl : l3 = false := by simpa using hf
            clear hp ho'
            unfold wpOp
            simp only [pkIf_true]
            go_simp
            exact .inl ⟨l0, l1, l2, true, l4, l5, l6, l7, l8, l9, l10, l11, l12, l13, l14, l15, A, rfl, rfl, hb, hA⟩
          | 4, _ =>
            obtain rfl : l4 = false := by simpa using hf
            clear hp ho'
            unfold wpOp
            simp only [pkIf_true]
            go_simp
            exact .inl ⟨l0, l1, l2, l3, true, l5, l6, l7, l8, l9, l10, l11, l12, l13, l14, l15, A, rfl, rfl, hb, hA⟩
          | 5, _ =>
            obtain rfl : l5 = false := by simpa using hf
            cases ho'
            obtain rfl : l3 = true := by simpa using hp ⟨3, .data⟩ (by simp) rfl
            obtain rfl : l4 = true := by simpa using hp ⟨4, .data⟩ (by simp) rfl
            clear hp
            unfold wpOp
            simp only [pkIf_true]
            go_simp
            exact .inl ⟨l0, l1, l2, true, true, true, l6, l7, l8, l9, l10, l11, l12, l13, l14, l15, A, rfl, rfl, hb, hA⟩
          | 6, _ =>
            obtain rfl : l6 = false := by simpa using hf
            cases ho'
            obtain rfl : l5 = true := by simpa using hp ⟨5, .data⟩ (by simp) rfl
            clear hp
            unfold wpOp
            simp only [pkIf_true]
            go_simp
            exact .inl ⟨l0, l1, l2, l3, l4, true, true, l7, l8, l9, l10, l11, l12, l13, l14, l15, w'.heap.size, rfl, rfl, hb.alloc hb.size _, (fun _ => ⟨hb.size, heap_alloc_new _ _⟩)⟩
          | 7, _ =>
            obtain rfl : l7 = false := by simpa using hf
            cases ho'
            obtain rfl : l2 = true := by simpa using hp ⟨2, .data⟩ (by simp) rfl
            obtain rfl : l6 = true := by simpa using hp ⟨6, .data⟩ (by simp) rfl
            clear hp
            unfold wpOp
            simp only [pkIf_true]
            go_simp
            refine .inl ((HGR.out w' A (hA rfl).2).mono ?_)
            rintro e w9 ⟨rfl, rfl⟩
            exact ⟨l0, l1, true, l3, l4, l5, true, true, l8, l9, l10, l11, l12, l13, l14, l15, A, rfl, rfl, hb, hA⟩
          | 8, _ =>
            obtain rfl : l8 = false := by simpa using hf
            clear hp ho'
            unfold wpOp
            simp only [pkIf_true]
            go_simp
            exact .inl ⟨l0, l1, l2, l3, l4, l5, l6, l7, true, l9, l10, l11, l12, l13, l14, l15, A, rfl, rfl, hb, hA⟩
          | 9, _ =>
            obtain rfl : l9 = false := by simpa using hf
            clear hp ho'
            unfold wpOp
            simp only [pkIf_true]
            go_simp
            exact .inl ⟨l0, l1, l2, l3, l4, l5, l6, l7, l8, true, l10, l11, l12, l13, l14, l15, A, rfl, rfl, hb, hA⟩
          | 10, _ =>
            obtain rfl : l10 = false := by simpa using hf
            cases ho'
            obtain rfl : l9 = true := by simpa using hp ⟨9, .data⟩ (by simp) rfl
            clear hp
            unfold wpOp
            simp only [pkIf_true]
            go_simp
            exact .inl ⟨l0, l1, l2, l3, l4, l5, l6, l7, l8, true, true, l11, l12, l13, l14, l15, A, rfl, rfl, hb, hA⟩
          | 11, _ =>
            obtain rfl : l11 = false := by simpa using hf
            clear hp ho'
            unfold wpOp
            simp only [pkIf_true]
            go_simp
            exact .inl ⟨l0, l1, l2, l3, l4, l5, l6, l7, l8, l9, l10, true, l12, l13, l14, l15, A, rfl, rfl, hb, hA⟩
          | 12, _ =>
            obtain rfl : l12 = false := by simpa using hf
            cases ho'
            obtain rfl : l10 = true := by simpa using hp ⟨10, .data⟩ (by simp) rfl
            obtain rfl : l11 = true := by simpa using hp ⟨11, .data⟩ (by simp) rfl
            clear hp
            unfold wpOp
            simp only [pkIf_true]
            go_simp
            exact .inl ⟨l0, l1, l2, l3, l4, l5, l6, l7, l8, l9, true, true, true, l13, l14, l15, A, rfl, rfl, hb, hA⟩
          | 13, _ =>
            obtain rfl : l13 = false := by simpa using hf
            clear hp ho'
            unfold wpOp
            simp only [pkIf_true]
            go_simp
            exact .inl ⟨l0, l1, l2, l3, l4, l5, l6, l7, l8, l9, l10, l11, l12, true, l14, l15, A, rfl, rfl, hb, hA⟩
          | 14, _ =>
            obtain rfl : l14 = false := by simpa using hf
            cases ho'
            obtain rfl : l8 = true := by simpa using hp ⟨8, .data⟩ (by simp) rfl
            obtain rfl : l12 = true := by simpa using hp ⟨12, .data⟩ (by simp) rfl
            obtain rfl : l13 = true := by simpa using hp ⟨13, .data⟩ (by simp) rfl
            clear hp
            unfold wpOp
            simp only [pkIf_true]
            go_simp
            refine .inl ((HFK.out w' hb).mono ?_)
            rintro e w9 ⟨rfl, hb9⟩
            exact ⟨l0, l1, l2, l3, l4, l5, l6, l7, true, l9, l10, l11, true, true, true, l15, A, rfl, rfl, hb.trans (hb9.mono hb.size), (fun h => ⟨(hA h).1, (hb9.block _ (Array.getElem?_eq_some_iff.1 (hA h).2).1).trans (hA h).2⟩)⟩
          | 15, _ =>
            obtain rfl : l15 = false := by simpa using hf
            cases ho'
            obtain rfl : l7 = true := by simpa using hp ⟨7, .data⟩ (by simp) rfl
            obtain rfl : l14 = true := by simpa using hp ⟨14, .data⟩ (by simp) rfl
            clear hp
            unfold wpOp
            simp only [pkIf_true]
            go_simp
            exact .inl ⟨l0, l1, l2, l3, l4, l5, l6, true, l8, l9, l10, l11, l12, l13, true, true, A, rfl, rfl, hb, hA⟩
        case hend =>
          rintro listed a w2 ⟨l0, l1, l2, l3, l4, l5, l6, l7, l8, l9, l10, l11, l12, l13, l14, l15, A, rfl, rfl, hb, hA⟩ hall
          have hal0 := ready_all (by kernel_rfl) rfl hall 16
          have hal : l0 = true ∧ l1 = true ∧ l2 = true ∧ l3 = true ∧ l4 = true ∧ l5 = true ∧ l6 = true ∧ l7 = true ∧ l8 = true ∧ l9 = true ∧ l10 = true ∧ l11 = true ∧ l12 = true ∧ l13 = true ∧ l14 = true ∧ l15 = true := ⟨hal0 0 (by decide) (by simp), hal0 1 (by decide) (by simp), hal0 2 (by decide) (by simp), hal0 3 (by decide) (by simp), hal0 4 (by decide) (by simp), hal0 5 (by decide) (by simp), hal0 6 (by decide) (by simp), hal0 7 (by decide) (by simp), hal0 8 (by decide) (by simp), hal0 9 (by decide) (by simp), hal0 10 (by decide) (by simp), hal0 11 (by decide) (by simp), hal0 12 (by decide) (by simp), hal0 13 (by decide) (by simp), hal0 14 (by decide) (by simp), hal0 15 (by decide) (by simp)⟩
          obtain ⟨rfl, rfl, rfl, rfl, rfl, rfl, rfl, rfl, rfl, rfl, rfl, rfl, rfl, rfl, rfl, rfl⟩ := hal
          simp only [pkIf_true, List.drop_succ_cons, List.drop_zero]
          clear hall hal0 hA
          replace HB := Lib.hid (HB.out.trans (hb.mono HB.out.size))
          replace HNd := Lib.hid ((hb.block _ (Array.getElem?_eq_some_iff.1 HNd.out).1).trans HNd.out)
          replace HNz := Lib.hid ((hb.block _ (Array.getElem?_eq_some_iff.1 HNz.out).1).trans HNz.out)
          clear hb
          clear gw1 gw2 gw3 HRD HFK HGR
          cases hd : decide (F < M)
          · have HN2 := Lib.hid (HNX.out (Int.not_lt.1 (of_decide_eq_false hd)))
            have hq := HBI.out
            clear hd
            go_wp2_with fail
            go_roundw
            case rel => exact ⟨k + 1, HKL.out, by go_num, HN2, HB, HNd, HNz⟩
            case measure => have := HKL.out; simp [intOf]; omega
          · have HN := Lib.hid (HNK.out (of_decide_eq_true hd))
            clear hd
            go_wp2_with fail
            go_ret
            exact ⟨by rw [HN.out]; rfl, HB.out⟩
      · obtain rfl : k = i := by omega
        have HN := Lib.hid (HYE.out hN.out)
        have hki : ¬ (k : Int) < k := by omega
        clear hkl hk
        go_wp2_with fail
        go_ret
        exact ⟨by rw [HN.out]; rfl, HB.out⟩
end Go.Proofs.YtebdboacmeafaaaGreat
