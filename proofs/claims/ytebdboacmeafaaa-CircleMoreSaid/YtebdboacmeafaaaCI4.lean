/- The law CircleMore. -/
import Derived.Test.YtebdboacmeafaaaCI3
import Derived.Test.YtebdboacmeafaaaCF1
import Derived.Test.YtebdboacmeafaaaCKA
import Derived.Laws.StructEq
set_option linter.unusedVariables false
set_option linter.unusedSimpArgs false
namespace Go.Proofs.Ytebdboacmeafaaa
open Go Go.RowKit

set_option maxRecDepth 100000 in
set_option maxHeartbeats 8000000 in
theorem more_card (v1 v2 : Value) (cs : List Ci) (ks : List Ck) (rc rt rs rl kn : Int) (w : World) (hv1 : CiRow w v1 cs) (hv2 : CkRow w v2 ks) (hl1 : cs.length ≤ 9223372036854775807) (hl2 : ks.length ≤ 9223372036854775807) (hkn : 0 ≤ kn ∧ kn ≤ 65535) :
    Calls Try.prog 6 #[.agg #[v1, v2], .agg #[.int .i64 rc, .int .i64 rt, .int .i64 rs, .int .i64 rl], .int .u16 kn] w fun e w' => e = .returned (.bool true) ∧ Below w.heap.size w w' := by
  obtain ⟨a1, c1, rfl, _⟩ := hv1.form
  obtain ⟨a2, c2, rfl, hc2⟩ := hv2.form
  have HC2 := Lib.hid hc2
  have HKN := Lib.hid hkn
  have HF := Lib.hid (fun w' => few_any a1 a2 cs.length c1 ks.length c2 w')
  have H1 := Lib.hid (fun w' (h : Below w.heap.size w w') => Wedge_any (.slice a1 cs.length c1) (.slice a2 ks.length c2) cs ks rc rt rs rl w' (hv1.keep h) (hv2.keep h) hl1 hl2)
  have H2 := Lib.hid (fun w' (h : Below w.heap.size w w') => Zero_any (.slice a1 cs.length c1) (.slice a2 ks.length c2) cs ks rc rt w' (hv1.keep h) (hv2.keep h) hl1 hl2)
  have H3 := Lib.hid (fun w' (h : Below w.heap.size w w') => Rests_any (.slice a1 cs.length c1) (.slice a2 ks.length c2) cs ks rc rt w' (hv1.keep h) (hv2.keep h) hl1 hl2)
  have H5 := Lib.hid (fun w' => sanity_any w')
  have HWO := Lib.hid (fun vi ids w' (h : Below w.heap.size w w') (hi : INRow w' vi ids) (hn : ids.length ≤ 9223372036854775807) => Without_any (.slice a1 cs.length c1) (.slice a2 ks.length c2) vi cs ks ids w' (hv1.keep h) (hv2.keep h) hi hl1 hl2 hn)
  have HLZ := Lib.hid (fun v1 v2 (K : List Ck) w' (h1 : CiRow w' v1 cs) (h2 : CkRow w' v2 K) (hk : K.length ≤ 60) (hn : cs.length ≤ 12) => Zero_any v1 v2 cs K rc rt w' h1 h2 (by omega) (by omega))
  have HLW := Lib.hid (fun v1 v2 (K : List Ck) w' (h1 : CiRow w' v1 cs) (h2 : CkRow w' v2 K) (hk : K.length ≤ 60) (hn : cs.length ≤ 12) => Wedge_any v1 v2 cs K rc rt rs rl w' h1 h2 (by omega) (by omega))
  have HOW := Lib.hid (fun f t w' => Opening_any f t w')
  rw [wg_eq] at H1
  rw [zr_eq] at H2
  have HZY := Lib.hid (zy_eq cs ks rc rt)
  have HMC := Lib.hid (fun (hz : zrE cs ks rc rt = 0) (hr : rwE cs ks rc rt rs rl = 0 ∨ rwE cs ks rc rt rs rl = 50) => more_core hz hr)
  have HMS := Lib.hid (fun (hz : zrE cs ks rc rt = 0) (hr : rwE cs ks rc rt rs rl = 0 ∨ rwE cs ks rc rt rs rl = 50) => show rwE cs (woC ks (idL ks (rsLo cs ks rc rt) (rsHi cs ks rc rt))) rc rt rs rl = rwE cs ks rc rt rs rl ∧ rwF cs (woC ks (idL ks (rsLo cs ks rc rt) (rsHi cs ks rc rt))) rc rt rs rl = rwF cs ks rc rt rs rl ∧ rwT cs (woC ks (idL ks (rsLo cs ks rc rt) (rsHi cs ks rc rt))) rc rt rs rl = rwT cs ks rc rt rs rl from more_rest (p := fun j => !(idL ks (rsLo cs ks rc rt) (rsHi cs ks rc rt)).contains j) hz hr (idL_not ks (rsLo cs ks rc rt) (rsHi cs ks rc rt)).1 (idL_not ks (rsLo cs ks rc rt) (rsHi cs ks rc rt)).2)
  have HRV : Hid (zrE cs ks rc rt = 0 → rsV cs ks rc rt = .tuple #[.int .i64 (rsLo cs ks rc rt), .int .i64 (rsHi cs ks rc rt), .int .i64 0]) := Lib.hid (fun h => by unfold rsV; rw [if_pos h])
  have HCC := Lib.hid (fun (h : zrE cs ks rc rt = 0) => zr_cc h)
  obtain ⟨RA, hRA⟩ : ∃ N, rsLo cs ks rc rt = N := ⟨_, rfl⟩
  obtain ⟨RB, hRB⟩ : ∃ N, rsHi cs ks rc rt = N := ⟨_, rfl⟩
  rw [hRA, hRB] at HMS HRV
  obtain ⟨RE, hRE⟩ : ∃ N, rwE cs ks rc rt rs rl = N := ⟨_, rfl⟩
  obtain ⟨RF, hRF⟩ : ∃ N, rwF cs ks rc rt rs rl = N := ⟨_, rfl⟩
  obtain ⟨RT, hRT⟩ : ∃ N, rwT cs ks rc rt rs rl = N := ⟨_, rfl⟩
  obtain ⟨ZE, hZE⟩ : ∃ N, yrE cs ks rc rt = N := ⟨_, rfl⟩
  obtain ⟨YL, hYL⟩ : ∃ N, yrL cs ks rc rt = N := ⟨_, rfl⟩
  obtain ⟨YH, hYH⟩ : ∃ N, yrH cs ks rc rt = N := ⟨_, rfl⟩
  rw [hRE, hRF, hRT] at H1 HMC HMS
  rw [hZE, hYL, hYH] at H2 HZY
  obtain ⟨B0, hB0⟩ : ∃ B, fwB cs.length ks.length = B := ⟨_, rfl⟩
  rw [hB0] at HF
  clear hc2 hkn hv1 hv2 hl1 hl2 hRE hRF hRT hZE hYL hYH hB0 hRA hRB
  obtain ⟨i0, hi0, hz0, hz1, hz2⟩ := info_parts info_in1
  obtain ⟨x0, x1, xlt, xb⟩ := two_cells w #[.slice a1 cs.length c1, .slice a2 ks.length c2] #[.int .i64 rc, .int .i64 rt, .int .i64 rs, .int .i64 rl] 25 53 (Below.refl _ _)
  have HNc : Hid (((w.alloc (.cells #[.slice a1 cs.length c1, .slice a2 ks.length c2] 25)).alloc (.cells #[.int .i64 rc, .int .i64 rt, .int .i64 rs, .int .i64 rl] 53)).heap[w.heap.size]? = some (.cells #[.slice a1 cs.length c1, .slice a2 ks.length c2] 25 (0, 0))) := Lib.hid x0
  have HNq : Hid (((w.alloc (.cells #[.slice a1 cs.length c1, .slice a2 ks.length c2] 25)).alloc (.cells #[.int .i64 rc, .int .i64 rt, .int .i64 rs, .int .i64 rl] 53)).heap[w.heap.size + 1]? = some (.cells #[.int .i64 rc, .int .i64 rt, .int .i64 rs, .int .i64 rl] 53 (0, 0))) := Lib.hid x1
  have HB : Hid (Below w.heap.size w ((w.alloc (.cells #[.slice a1 cs.length c1, .slice a2 ks.length c2] 25)).alloc (.cells #[.int .i64 rc, .int .i64 rt, .int .i64 rs, .int .i64 rl] 53))) := Lib.hid xb
  obtain ⟨Z, hZ⟩ : ∃ Z, ((w.alloc (.cells #[.slice a1 cs.length c1, .slice a2 ks.length c2] 25)).alloc (.cells #[.int .i64 rc, .int .i64 rt, .int .i64 rs, .int .i64 rl] 53)) = Z := ⟨_, rfl⟩
  rw [hZ] at HB HNc HNq
  have HZ := Lib.hid hZ
  clear hZ xlt xb x0 x1
  go_enter Try.func6, Try.ntmps6
  go_wp2_with fail
  rw [HZ.out]
  refine (HF.out _).mono ?_
  rintro e w1 ⟨rfl, hb⟩
  replace HB := Lib.hid (HB.out.trans (hb.mono HB.out.size))
  replace HNc := Lib.hid ((hb.block _ (Array.getElem?_eq_some_iff.1 HNc.out).1).trans HNc.out)
  replace HNq := Lib.hid ((hb.block _ (Array.getElem?_eq_some_iff.1 HNq.out).1).trans HNq.out)
  clear hb
  cases B0
  · skip
    have zc0 := cellH HNc.out 0
    have zc1 := cellH HNc.out 1
    simp only [List.getElem?_toArray, List.getElem?_cons_zero, List.getElem?_cons_succ] at zc0 zc1
    go_wp2_with fail
    refine (H5.out _).mono ?_
    rintro e w2 ⟨rfl, hb⟩
    clear zc0 zc1
    replace HB := Lib.hid (HB.out.trans (hb.mono HB.out.size))
    replace HNc := Lib.hid ((hb.block _ (Array.getElem?_eq_some_iff.1 HNc.out).1).trans HNc.out)
    replace HNq := Lib.hid ((hb.block _ (Array.getElem?_eq_some_iff.1 HNq.out).1).trans HNq.out)
    clear hb
    go_wp2_with fail
    go_ret
    exact ⟨rfl, HB.out⟩
  by_cases hm0 : ks.length = 0
  case pos =>
    have gM : ((ks.length : Int) == 0) = true := by rw [hm0]; rfl
    clear hm0
    have zc0 := cellH HNc.out 0
    have zc1 := cellH HNc.out 1
    simp only [List.getElem?_toArray, List.getElem?_cons_zero, List.getElem?_cons_succ] at zc0 zc1
    go_wp2_with fail
    refine (H5.out _).mono ?_
    rintro e w3 ⟨rfl, hb⟩
    clear zc0 zc1
    replace HB := Lib.hid (HB.out.trans (hb.mono HB.out.size))
    replace HNc := Lib.hid ((hb.block _ (Array.getElem?_eq_some_iff.1 HNc.out).1).trans HNc.out)
    replace HNq := Lib.hid ((hb.block _ (Array.getElem?_eq_some_iff.1 HNq.out).1).trans HNq.out)
    clear hb
    go_wp2_with fail
    go_ret
    exact ⟨rfl, HB.out⟩
  have gM : ((ks.length : Int) == 0) = false := by simpa using (by omega : ¬ (ks.length : Int) = 0)
  have HM0 := Lib.hid hm0
  clear hm0
  have zc0 := cellH HNc.out 0
  have zc1 := cellH HNc.out 1
  have zq0 := cellH HNq.out 0
  have zq1 := cellH HNq.out 1
  have zq2 := cellH HNq.out 2
  have zq3 := cellH HNq.out 3
  simp only [List.getElem?_toArray, List.getElem?_cons_zero, List.getElem?_cons_succ] at zc0 zc1 zq0 zq1 zq2 zq3
  go_wp2_with fail
  refine (H1.out _ HB.out).mono ?_
  rintro e w4 ⟨rfl, hb⟩
  clear zc0 zc1 zq0 zq1 zq2 zq3
  replace HB := Lib.hid (HB.out.trans (hb.mono HB.out.size))
  replace HNc := Lib.hid ((hb.block _ (Array.getElem?_eq_some_iff.1 HNc.out).1).trans HNc.out)
  replace HNq := Lib.hid ((hb.block _ (Array.getElem?_eq_some_iff.1 HNq.out).1).trans HNq.out)
  clear hb
  clear gM
  have hAlc : Below w4.heap.size w4 (w4.alloc (.cells #[.int .i64 RF, .int .i64 RT] 55)) := (Below.refl _ w4).alloc (Nat.le_refl _) _
  have HSk : Hid (w.heap.size ≤ w4.heap.size) := Lib.hid HB.out.size
  have HNk : Hid ((w4.alloc (.cells #[.int .i64 RF, .int .i64 RT] 55)).heap[w4.heap.size]? = some (.cells #[.int .i64 RF, .int .i64 RT] 55 (0, 0))) := Lib.hid (heap_alloc_new _ _)
  replace HB := Lib.hid (HB.out.trans (hAlc.mono HB.out.size))
  have HXc_k : Hid (w.heap.size ≠ w4.heap.size) := Lib.hid (Nat.ne_of_lt (Array.getElem?_eq_some_iff.1 HNc.out).1)
  have HXq_k : Hid (w.heap.size + 1 ≠ w4.heap.size) := Lib.hid (Nat.ne_of_lt (Array.getElem?_eq_some_iff.1 HNq.out).1)
  replace HNc := Lib.hid ((hAlc.block _ (Array.getElem?_eq_some_iff.1 HNc.out).1).trans HNc.out)
  replace HNq := Lib.hid ((hAlc.block _ (Array.getElem?_eq_some_iff.1 HNq.out).1).trans HNq.out)
  obtain ⟨ak, hak⟩ : ∃ qq, w4.alloc (.cells #[.int .i64 RF, .int .i64 RT] 55) = qq := ⟨_, rfl⟩
  obtain ⟨bkk, hbk⟩ : ∃ qq, w4.heap.size = qq := ⟨_, rfl⟩
  rw [hak] at HB HNk HNc HNq
  rw [hbk] at HNk HSk HXc_k HXq_k
  clear hAlc
  have zc0 := cellH HNc.out 0
  have zc1 := cellH HNc.out 1
  have zq0 := cellH HNq.out 0
  have zq1 := cellH HNq.out 1
  have zq2 := cellH HNq.out 2
  have zq3 := cellH HNq.out 3
  simp only [List.getElem?_toArray, List.getElem?_cons_zero, List.getElem?_cons_succ] at zc0 zc1 zq0 zq1 zq2 zq3
  go_wp2_with fail
  try clear hak hbk
  refine (H2.out _ HB.out).mono ?_
  rintro e w5 ⟨rfl, hb⟩
  clear zc0 zc1 zq0 zq1 zq2 zq3
  replace HB := Lib.hid (HB.out.trans (hb.mono HB.out.size))
  replace HNc := Lib.hid ((hb.block _ (Array.getElem?_eq_some_iff.1 HNc.out).1).trans HNc.out)
  replace HNq := Lib.hid ((hb.block _ (Array.getElem?_eq_some_iff.1 HNq.out).1).trans HNq.out)
  replace HNk := Lib.hid ((hb.block _ (Array.getElem?_eq_some_iff.1 HNk.out).1).trans HNk.out)
  clear hb
  have hAlc : Below w5.heap.size w5 (w5.alloc (.cells #[.int .i64 YL, .int .i64 YH] 27)) := (Below.refl _ w5).alloc (Nat.le_refl _) _
  have HSz : Hid (w.heap.size ≤ w5.heap.size) := Lib.hid HB.out.size
  have HNz : Hid ((w5.alloc (.cells #[.int .i64 YL, .int .i64 YH] 27)).heap[w5.heap.size]? = some (.cells #[.int .i64 YL, .int .i64 YH] 27 (0, 0))) := Lib.hid (heap_alloc_new _ _)
  replace HB := Lib.hid (HB.out.trans (hAlc.mono HB.out.size))
  have HXc_z : Hid (w.heap.size ≠ w5.heap.size) := Lib.hid (Nat.ne_of_lt (Array.getElem?_eq_some_iff.1 HNc.out).1)
  have HXq_z : Hid (w.heap.size + 1 ≠ w5.heap.size) := Lib.hid (Nat.ne_of_lt (Array.getElem?_eq_some_iff.1 HNq.out).1)
  have HXk_z : Hid (bkk ≠ w5.heap.size) := Lib.hid (Nat.ne_of_lt (Array.getElem?_eq_some_iff.1 HNk.out).1)
  replace HNc := Lib.hid ((hAlc.block _ (Array.getElem?_eq_some_iff.1 HNc.out).1).trans HNc.out)
  replace HNq := Lib.hid ((hAlc.block _ (Array.getElem?_eq_some_iff.1 HNq.out).1).trans HNq.out)
  replace HNk := Lib.hid ((hAlc.block _ (Array.getElem?_eq_some_iff.1 HNk.out).1).trans HNk.out)
  obtain ⟨az, haz⟩ : ∃ qq, w5.alloc (.cells #[.int .i64 YL, .int .i64 YH] 27) = qq := ⟨_, rfl⟩
  obtain ⟨bkz, hbz⟩ : ∃ qq, w5.heap.size = qq := ⟨_, rfl⟩
  rw [haz] at HB HNz HNc HNq HNk
  rw [hbz] at HNz HSz HXc_z HXq_z HXk_z
  clear hAlc
  by_cases hZ0 : ZE = 0
  case neg =>
    have gZ : (ZE != 0) = true := by simpa using hZ0
    clear hZ0
    by_cases hE : RE = 0
    case pos =>
      subst hE
      have zc0 := cellH HNc.out 0
      have zc1 := cellH HNc.out 1
      simp only [List.getElem?_toArray, List.getElem?_cons_zero, List.getElem?_cons_succ] at zc0 zc1
      go_wp2_with fail
      try clear haz hbz
      refine (H5.out _).mono ?_
      rintro e w6 ⟨rfl, hb⟩
      clear zc0 zc1
      replace HB := Lib.hid (HB.out.trans (hb.mono HB.out.size))
      replace HNc := Lib.hid ((hb.block _ (Array.getElem?_eq_some_iff.1 HNc.out).1).trans HNc.out)
      replace HNq := Lib.hid ((hb.block _ (Array.getElem?_eq_some_iff.1 HNq.out).1).trans HNq.out)
      replace HNk := Lib.hid ((hb.block _ (Array.getElem?_eq_some_iff.1 HNk.out).1).trans HNk.out)
      replace HNz := Lib.hid ((hb.block _ (Array.getElem?_eq_some_iff.1 HNz.out).1).trans HNz.out)
      clear hb
      go_wp2_with fail
      go_ret
      exact ⟨rfl, HB.out⟩
    have gE0 : (RE != 0) = true := by simpa using hE
    clear hE
    by_cases hE : RE = 50
    case pos =>
      subst hE
      have zc0 := cellH HNc.out 0
      have zc1 := cellH HNc.out 1
      simp only [List.getElem?_toArray, List.getElem?_cons_zero, List.getElem?_cons_succ] at zc0 zc1
      go_wp2_with fail
      try clear haz hbz
      refine (H5.out _).mono ?_
      rintro e w7 ⟨rfl, hb⟩
      clear zc0 zc1
      replace HB := Lib.hid (HB.out.trans (hb.mono HB.out.size))
      replace HNc := Lib.hid ((hb.block _ (Array.getElem?_eq_some_iff.1 HNc.out).1).trans HNc.out)
      replace HNq := Lib.hid ((hb.block _ (Array.getElem?_eq_some_iff.1 HNq.out).1).trans HNq.out)
      replace HNk := Lib.hid ((hb.block _ (Array.getElem?_eq_some_iff.1 HNk.out).1).trans HNk.out)
      replace HNz := Lib.hid ((hb.block _ (Array.getElem?_eq_some_iff.1 HNz.out).1).trans HNz.out)
      clear hb
      go_wp2_with fail
      go_ret
      exact ⟨rfl, HB.out⟩
    have gE1 : (RE != 50) = true := by simpa using hE
    clear hE
    have zc0 := cellH HNc.out 0
    have zc1 := cellH HNc.out 1
    simp only [List.getElem?_toArray, List.getElem?_cons_zero, List.getElem?_cons_succ] at zc0 zc1
    go_wp2_with fail
    try clear haz hbz
    refine (H5.out _).mono ?_
    rintro e w8 ⟨rfl, hb⟩
    clear zc0 zc1
    replace HB := Lib.hid (HB.out.trans (hb.mono HB.out.size))
    replace HNc := Lib.hid ((hb.block _ (Array.getElem?_eq_some_iff.1 HNc.out).1).trans HNc.out)
    replace HNq := Lib.hid ((hb.block _ (Array.getElem?_eq_some_iff.1 HNq.out).1).trans HNq.out)
    replace HNk := Lib.hid ((hb.block _ (Array.getElem?_eq_some_iff.1 HNk.out).1).trans HNk.out)
    replace HNz := Lib.hid ((hb.block _ (Array.getElem?_eq_some_iff.1 HNz.out).1).trans HNz.out)
    clear hb
    go_wp2_with fail
    go_ret
    exact ⟨rfl, HB.out⟩
  have hzz : zrE cs ks rc rt = 0 := HZY.out.1.trans hZ0
  obtain ⟨hzl, hzh⟩ := HZY.out.2 hZ0
  replace HMC := Lib.hid (HMC.out hzz)
  replace HMS := Lib.hid (HMS.out hzz)
  replace HRV := Lib.hid (HRV.out hzz)
  rw [HRV.out] at H3
  have hcc := HCC.out hzz
  have HC0 := Lib.hid hcc
  have HO := Lib.hid (ccE_ok hcc)
  rw [hzl, hzh] at HMC
  subst hZ0
  clear hzz hzl hzh hcc HZY HRV HCC
  by_cases hE : RE = 0 ∨ RE = 50
  case neg =>
    have gE0 : (RE != 0) = true := by simpa using (fun h => hE (.inl h))
    have gE1 : (RE != 50) = true := by simpa using (fun h => hE (.inr h))
    clear hE
    have zc0 := cellH HNc.out 0
    have zc1 := cellH HNc.out 1
    simp only [List.getElem?_toArray, List.getElem?_cons_zero, List.getElem?_cons_succ] at zc0 zc1
    go_wp2_with fail
    try clear haz hbz
    refine (H5.out _).mono ?_
    rintro e w9 ⟨rfl, hb⟩
    clear zc0 zc1
    replace HB := Lib.hid (HB.out.trans (hb.mono HB.out.size))
    replace HNc := Lib.hid ((hb.block _ (Array.getElem?_eq_some_iff.1 HNc.out).1).trans HNc.out)
    replace HNq := Lib.hid ((hb.block _ (Array.getElem?_eq_some_iff.1 HNq.out).1).trans HNq.out)
    replace HNk := Lib.hid ((hb.block _ (Array.getElem?_eq_some_iff.1 HNk.out).1).trans HNk.out)
    replace HNz := Lib.hid ((hb.block _ (Array.getElem?_eq_some_iff.1 HNz.out).1).trans HNz.out)
    clear hb
    go_wp2_with fail
    go_ret
    exact ⟨rfl, HB.out⟩
  replace HMC := Lib.hid (HMC.out hE)
  replace HMS := Lib.hid (HMS.out hE)
  have gEE : (RE != 0 && RE != 50) = false := by rcases hE with rfl | rfl <;> rfl
  have hkn := HKN.out
  have hm0 := HM0.out
  have hm60 := HO.out.m
  have hjm : (kn.toNat % ks.length) < ks.length := Nat.mod_lt _ (by omega)
  have hjt : (kn.tmod (ks.length : Int)) = ((kn.toNat % ks.length : Nat) : Int) := by
    rw [Int.tmod_eq_emod_of_nonneg hkn.1]
    have : kn = (kn.toNat : Int) := by omega
    rw [this, Int.toNat_natCast]; omega
  obtain ⟨J, hJ⟩ : ∃ J, kn.toNat % ks.length = J := ⟨_, rfl⟩
  rw [hJ] at hjm hjt
  obtain ⟨b, off, rfl, hb, hat⟩ := HC2.out J hjm
  have HWE := Lib.hid (woE_one HC0.out hjm)
  obtain ⟨e0, e1, e2, e3, e4, e5, e6⟩ := hat.keep HB.out hb
  have hji : (J : Int) < ks.length := by omega
  have hj0 : (0 : Int) ≤ J := by omega
  obtain ⟨ID, hID⟩ : ∃ X, (ks.getD J .nil).id = X := ⟨_, rfl⟩
  rw [hID] at e0 HWE
  have ht1 : IntKind.i64.wrap kn = kn := IntWalk.i64_in _ (by omega)
  have hmne : ((ks.length : Int) == 0) = false := by simpa using (by omega : ¬ (ks.length : Int) = 0)
  clear hat hJ hID e1 e2 e3 e4 e5 e6 hkn hm0 hm60 hb
  have zc0 := cellH HNc.out 0
  have zc1 := cellH HNc.out 1
  simp only [List.getElem?_toArray, List.getElem?_cons_zero, List.getElem?_cons_succ] at zc0 zc1
  obtain ⟨RX, hRX⟩ : ∃ q, q = RE := ⟨_, rfl⟩
  rw [← hRX] at HMC
  have HRX := Lib.hid hRX
  clear hRX
  rcases hE with rfl | rfl
  · clear gEE
    go_wp2_with fail
    try clear haz hbz
    go_quiet (fail)
    clear zc0 zc1
    clear e0 hjt ht1 hmne
    obtain ⟨wq, hwq⟩ : ∃ q, az.drewN nq = q := ⟨_, rfl⟩
    have hbq : Below az.heap.size az wq := by rw [← hwq]; exact belowN (Below.refl _ _) _
    rw [hwq]
    clear hwq
    replace HB := Lib.hid (HB.out.trans (hbq.mono HB.out.size))
    replace HNc := Lib.hid ((hbq.block _ (Array.getElem?_eq_some_iff.1 HNc.out).1).trans HNc.out)
    replace HNq := Lib.hid ((hbq.block _ (Array.getElem?_eq_some_iff.1 HNq.out).1).trans HNq.out)
    replace HNk := Lib.hid ((hbq.block _ (Array.getElem?_eq_some_iff.1 HNk.out).1).trans HNk.out)
    replace HNz := Lib.hid ((hbq.block _ (Array.getElem?_eq_some_iff.1 HNz.out).1).trans HNz.out)
    clear hbq
    have zc0 := cellH HNc.out 0
    have zc1 := cellH HNc.out 1
    simp only [List.getElem?_toArray, List.getElem?_cons_zero, List.getElem?_cons_succ] at zc0 zc1
    have hAlc : Below wq.heap.size wq (wq.alloc (.cells #[.int .i64 ID] 3)) := (Below.refl _ wq).alloc (Nat.le_refl _) _
    have HSdi : Hid (w.heap.size ≤ wq.heap.size) := Lib.hid HB.out.size
    have HNdi : Hid ((wq.alloc (.cells #[.int .i64 ID] 3)).heap[wq.heap.size]? = some (.cells #[.int .i64 ID] 3 (0, 0))) := Lib.hid (heap_alloc_new _ _)
    replace HB := Lib.hid (HB.out.trans (hAlc.mono HB.out.size))
    have HXc_di : Hid (w.heap.size ≠ wq.heap.size) := Lib.hid (Nat.ne_of_lt (Array.getElem?_eq_some_iff.1 HNc.out).1)
    have HXq_di : Hid (w.heap.size + 1 ≠ wq.heap.size) := Lib.hid (Nat.ne_of_lt (Array.getElem?_eq_some_iff.1 HNq.out).1)
    have HXk_di : Hid (bkk ≠ wq.heap.size) := Lib.hid (Nat.ne_of_lt (Array.getElem?_eq_some_iff.1 HNk.out).1)
    have HXz_di : Hid (bkz ≠ wq.heap.size) := Lib.hid (Nat.ne_of_lt (Array.getElem?_eq_some_iff.1 HNz.out).1)
    replace HNc := Lib.hid ((hAlc.block _ (Array.getElem?_eq_some_iff.1 HNc.out).1).trans HNc.out)
    replace HNq := Lib.hid ((hAlc.block _ (Array.getElem?_eq_some_iff.1 HNq.out).1).trans HNq.out)
    replace HNk := Lib.hid ((hAlc.block _ (Array.getElem?_eq_some_iff.1 HNk.out).1).trans HNk.out)
    replace HNz := Lib.hid ((hAlc.block _ (Array.getElem?_eq_some_iff.1 HNz.out).1).trans HNz.out)
    obtain ⟨adi, hadi⟩ : ∃ qq, wq.alloc (.cells #[.int .i64 ID] 3) = qq := ⟨_, rfl⟩
    obtain ⟨bkdi, hbdi⟩ : ∃ qq, wq.heap.size = qq := ⟨_, rfl⟩
    rw [hadi] at HB HNdi HNc HNq HNk HNz
    rw [hbdi] at HNdi HSdi HXc_di HXq_di HXk_di HXz_di
    clear hAlc
    have HRI := Lib.hid (row_one ID HNdi.out)
    go_wp2_with fail
    try clear hadi hbdi
    refine (HWO.out _ [ID] _ HB.out HRI.out (by simp)).mono ?_
    rintro e w10 ⟨hb, _, hw⟩
    clear zc0 zc1
    replace HB := Lib.hid (HB.out.trans (hb.mono HB.out.size))
    replace HNc := Lib.hid ((hb.block _ (Array.getElem?_eq_some_iff.1 HNc.out).1).trans HNc.out)
    replace HNq := Lib.hid ((hb.block _ (Array.getElem?_eq_some_iff.1 HNq.out).1).trans HNq.out)
    replace HNk := Lib.hid ((hb.block _ (Array.getElem?_eq_some_iff.1 HNk.out).1).trans HNk.out)
    replace HNz := Lib.hid ((hb.block _ (Array.getElem?_eq_some_iff.1 HNz.out).1).trans HNz.out)
    replace HNdi := Lib.hid ((hb.block _ (Array.getElem?_eq_some_iff.1 HNdi.out).1).trans HNdi.out)
    clear hb HRI
    obtain ⟨va, vb, rfl, hr1, hr2⟩ := hw HWE.out
    obtain ⟨ua, ub, rfl, _⟩ := hr1.form
    obtain ⟨ta, tb, rfl, _⟩ := hr2.form
    have hlk : (woC ks [ID]).length ≤ 60 := Nat.le_trans (List.length_filter_le _ _) HO.out.m
    have HMD := Lib.hid (HMC.out (fun j => !([ID] : List Int).contains j))
    have HLZ1 := Lib.hid (fun w' h1 h2 => HLZ.out (.slice ua cs.length ub) (.slice ta (woC ks [ID]).length tb) (woC ks [ID]) w' h1 h2 hlk HO.out.n)
    have HLW1 := Lib.hid (fun w' h1 h2 => HLW.out (.slice ua cs.length ub) (.slice ta (woC ks [ID]).length tb) (woC ks [ID]) w' h1 h2 hlk HO.out.n)
    change Hid (zrE cs (woC ks [ID]) rc rt = 0 ∧ zrL cs (woC ks [ID]) rc rt ≤ YL ∧ YH ≤ zrH cs (woC ks [ID]) rc rt ∧ (rwE cs (woC ks [ID]) rc rt rs rl = 0 → RX = 0 ∧ opI RF RT ≤ opI (rwF cs (woC ks [ID]) rc rt rs rl) (rwT cs (woC ks [ID]) rc rt rs rl))) at HMD
    have hzv : zrV cs (woC ks [ID]) rc rt = .tuple #[.agg #[.int .i64 (zrL cs (woC ks [ID]) rc rt), .int .i64 (zrH cs (woC ks [ID]) rc rt)], .int .i64 0] := by unfold zrV; rw [if_pos HMD.out.1]
    rw [hzv] at HLZ1
    rw [wg_eq] at HLW1
    have HR1 := Lib.hid hr1
    have HR2 := Lib.hid hr2
    obtain ⟨KL, hKL⟩ : ∃ q, woC ks [ID] = q := ⟨_, rfl⟩
    rw [hKL] at HMD HLZ1 HLW1 HR2
    obtain ⟨XL, hXL⟩ : ∃ q, zrL cs KL rc rt = q := ⟨_, rfl⟩
    obtain ⟨XH, hXH⟩ : ∃ q, zrH cs KL rc rt = q := ⟨_, rfl⟩
    obtain ⟨XE, hXE⟩ : ∃ q, rwE cs KL rc rt rs rl = q := ⟨_, rfl⟩
    obtain ⟨XF, hXF⟩ : ∃ q, rwF cs KL rc rt rs rl = q := ⟨_, rfl⟩
    obtain ⟨XT, hXT⟩ : ∃ q, rwT cs KL rc rt rs rl = q := ⟨_, rfl⟩
    obtain ⟨KN, hKN⟩ : ∃ q, KL.length = q := ⟨_, rfl⟩
    rw [hKL, hKN]
    rw [hXL, hXH, hXE, hXF, hXT] at HMD
    rw [hXL, hXH, hKN] at HLZ1
    rw [hXE, hXF, hXT, hKN] at HLW1
    rw [hKN] at HR2
    clear hw hr1 hr2 hlk hzv hKL hXL hXH hXE hXF hXT hKN HWE HMC
    clear HNdi
    have hAlc : Below w10.heap.size w10 (w10.alloc (.cells #[.slice ua cs.length ub, .slice ta KN tb] 25)) := (Below.refl _ w10).alloc (Nat.le_refl _) _
    have HSls : Hid (w.heap.size ≤ w10.heap.size) := Lib.hid HB.out.size
    have HNls : Hid ((w10.alloc (.cells #[.slice ua cs.length ub, .slice ta KN tb] 25)).heap[w10.heap.size]? = some (.cells #[.slice ua cs.length ub, .slice ta KN tb] 25 (0, 0))) := Lib.hid (heap_alloc_new _ _)
    replace HB := Lib.hid (HB.out.trans (hAlc.mono HB.out.size))
    have HXc_ls : Hid (w.heap.size ≠ w10.heap.size) := Lib.hid (Nat.ne_of_lt (Array.getElem?_eq_some_iff.1 HNc.out).1)
    have HXq_ls : Hid (w.heap.size + 1 ≠ w10.heap.size) := Lib.hid (Nat.ne_of_lt (Array.getElem?_eq_some_iff.1 HNq.out).1)
    have HXk_ls : Hid (bkk ≠ w10.heap.size) := Lib.hid (Nat.ne_of_lt (Array.getElem?_eq_some_iff.1 HNk.out).1)
    have HXz_ls : Hid (bkz ≠ w10.heap.size) := Lib.hid (Nat.ne_of_lt (Array.getElem?_eq_some_iff.1 HNz.out).1)
    replace HNc := Lib.hid ((hAlc.block _ (Array.getElem?_eq_some_iff.1 HNc.out).1).trans HNc.out)
    replace HNq := Lib.hid ((hAlc.block _ (Array.getElem?_eq_some_iff.1 HNq.out).1).trans HNq.out)
    replace HNk := Lib.hid ((hAlc.block _ (Array.getElem?_eq_some_iff.1 HNk.out).1).trans HNk.out)
    replace HNz := Lib.hid ((hAlc.block _ (Array.getElem?_eq_some_iff.1 HNz.out).1).trans HNz.out)
    replace HR1 := Lib.hid (HR1.out.keep hAlc)
    replace HR2 := Lib.hid (HR2.out.keep hAlc)
    obtain ⟨als, hals⟩ : ∃ qq, w10.alloc (.cells #[.slice ua cs.length ub, .slice ta KN tb] 25) = qq := ⟨_, rfl⟩
    obtain ⟨bkls, hbls⟩ : ∃ qq, w10.heap.size = qq := ⟨_, rfl⟩
    rw [hals] at HB HNls HNc HNq HNk HNz HR1 HR2
    rw [hbls] at HNls HSls HXc_ls HXq_ls HXk_ls HXz_ls
    clear hAlc
    have zq0 := cellH HNq.out 0
    have zq1 := cellH HNq.out 1
    have zq2 := cellH HNq.out 2
    have zq3 := cellH HNq.out 3
    have zls0 := cellH HNls.out 0
    have zls1 := cellH HNls.out 1
    simp only [List.getElem?_toArray, List.getElem?_cons_zero, List.getElem?_cons_succ] at zq0 zq1 zq2 zq3 zls0 zls1
    go_wp2_with fail
    try clear hals hbls
    refine (HLZ1.out _ HR1.out HR2.out).mono ?_
    rintro e w11 ⟨rfl, hb⟩
    clear zq0 zq1 zq2 zq3 zls0 zls1
    replace HB := Lib.hid (HB.out.trans (hb.mono HB.out.size))
    replace HNc := Lib.hid ((hb.block _ (Array.getElem?_eq_some_iff.1 HNc.out).1).trans HNc.out)
    replace HNq := Lib.hid ((hb.block _ (Array.getElem?_eq_some_iff.1 HNq.out).1).trans HNq.out)
    replace HNk := Lib.hid ((hb.block _ (Array.getElem?_eq_some_iff.1 HNk.out).1).trans HNk.out)
    replace HNz := Lib.hid ((hb.block _ (Array.getElem?_eq_some_iff.1 HNz.out).1).trans HNz.out)
    replace HNls := Lib.hid ((hb.block _ (Array.getElem?_eq_some_iff.1 HNls.out).1).trans HNls.out)
    replace HR1 := Lib.hid (HR1.out.keep hb)
    replace HR2 := Lib.hid (HR2.out.keep hb)
    clear hb
    have hAlc : Below w11.heap.size w11 (w11.alloc (.cells #[.int .i64 XL, .int .i64 XH] 27)) := (Below.refl _ w11).alloc (Nat.le_refl _) _
    have HSy : Hid (w.heap.size ≤ w11.heap.size) := Lib.hid HB.out.size
    have HNy : Hid ((w11.alloc (.cells #[.int .i64 XL, .int .i64 XH] 27)).heap[w11.heap.size]? = some (.cells #[.int .i64 XL, .int .i64 XH] 27 (0, 0))) := Lib.hid (heap_alloc_new _ _)
    replace HB := Lib.hid (HB.out.trans (hAlc.mono HB.out.size))
    have HXc_y : Hid (w.heap.size ≠ w11.heap.size) := Lib.hid (Nat.ne_of_lt (Array.getElem?_eq_some_iff.1 HNc.out).1)
    have HXq_y : Hid (w.heap.size + 1 ≠ w11.heap.size) := Lib.hid (Nat.ne_of_lt (Array.getElem?_eq_some_iff.1 HNq.out).1)
    have HXk_y : Hid (bkk ≠ w11.heap.size) := Lib.hid (Nat.ne_of_lt (Array.getElem?_eq_some_iff.1 HNk.out).1)
    have HXz_y : Hid (bkz ≠ w11.heap.size) := Lib.hid (Nat.ne_of_lt (Array.getElem?_eq_some_iff.1 HNz.out).1)
    have HXls_y : Hid (bkls ≠ w11.heap.size) := Lib.hid (Nat.ne_of_lt (Array.getElem?_eq_some_iff.1 HNls.out).1)
    replace HNc := Lib.hid ((hAlc.block _ (Array.getElem?_eq_some_iff.1 HNc.out).1).trans HNc.out)
    replace HNq := Lib.hid ((hAlc.block _ (Array.getElem?_eq_some_iff.1 HNq.out).1).trans HNq.out)
    replace HNk := Lib.hid ((hAlc.block _ (Array.getElem?_eq_some_iff.1 HNk.out).1).trans HNk.out)
    replace HNz := Lib.hid ((hAlc.block _ (Array.getElem?_eq_some_iff.1 HNz.out).1).trans HNz.out)
    replace HNls := Lib.hid ((hAlc.block _ (Array.getElem?_eq_some_iff.1 HNls.out).1).trans HNls.out)
    replace HR1 := Lib.hid (HR1.out.keep hAlc)
    replace HR2 := Lib.hid (HR2.out.keep hAlc)
    obtain ⟨ay, hay⟩ : ∃ qq, w11.alloc (.cells #[.int .i64 XL, .int .i64 XH] 27) = qq := ⟨_, rfl⟩
    obtain ⟨bky, hby⟩ : ∃ qq, w11.heap.size = qq := ⟨_, rfl⟩
    rw [hay] at HB HNy HNc HNq HNk HNz HNls HR1 HR2
    rw [hby] at HNy HSy HXc_y HXq_y HXk_y HXz_y HXls_y
    clear hAlc
    have zq0 := cellH HNq.out 0
    have zq1 := cellH HNq.out 1
    have zq2 := cellH HNq.out 2
    have zq3 := cellH HNq.out 3
    have zls0 := cellH HNls.out 0
    have zls1 := cellH HNls.out 1
    simp only [List.getElem?_toArray, List.getElem?_cons_zero, List.getElem?_cons_succ] at zq0 zq1 zq2 zq3 zls0 zls1
    go_wp2_with fail
    try clear hay hby
    refine (HLW1.out _ HR1.out HR2.out).mono ?_
    rintro e w12 ⟨rfl, hb⟩
    clear zq0 zq1 zq2 zq3 zls0 zls1
    replace HB := Lib.hid (HB.out.trans (hb.mono HB.out.size))
    replace HNc := Lib.hid ((hb.block _ (Array.getElem?_eq_some_iff.1 HNc.out).1).trans HNc.out)
    replace HNq := Lib.hid ((hb.block _ (Array.getElem?_eq_some_iff.1 HNq.out).1).trans HNq.out)
    replace HNk := Lib.hid ((hb.block _ (Array.getElem?_eq_some_iff.1 HNk.out).1).trans HNk.out)
    replace HNz := Lib.hid ((hb.block _ (Array.getElem?_eq_some_iff.1 HNz.out).1).trans HNz.out)
    replace HNls := Lib.hid ((hb.block _ (Array.getElem?_eq_some_iff.1 HNls.out).1).trans HNls.out)
    replace HNy := Lib.hid ((hb.block _ (Array.getElem?_eq_some_iff.1 HNy.out).1).trans HNy.out)
    replace HR1 := Lib.hid (HR1.out.keep hb)
    replace HR2 := Lib.hid (HR2.out.keep hb)
    clear hb HR1 HR2 HLZ1 HLW1
    clear HNls
    have hAlc : Below w12.heap.size w12 (w12.alloc (.cells #[.int .i64 XF, .int .i64 XT] 55)) := (Below.refl _ w12).alloc (Nat.le_refl _) _
    have HSv : Hid (w.heap.size ≤ w12.heap.size) := Lib.hid HB.out.size
    have HNv : Hid ((w12.alloc (.cells #[.int .i64 XF, .int .i64 XT] 55)).heap[w12.heap.size]? = some (.cells #[.int .i64 XF, .int .i64 XT] 55 (0, 0))) := Lib.hid (heap_alloc_new _ _)
    replace HB := Lib.hid (HB.out.trans (hAlc.mono HB.out.size))
    have HXc_v : Hid (w.heap.size ≠ w12.heap.size) := Lib.hid (Nat.ne_of_lt (Array.getElem?_eq_some_iff.1 HNc.out).1)
    have HXq_v : Hid (w.heap.size + 1 ≠ w12.heap.size) := Lib.hid (Nat.ne_of_lt (Array.getElem?_eq_some_iff.1 HNq.out).1)
    have HXk_v : Hid (bkk ≠ w12.heap.size) := Lib.hid (Nat.ne_of_lt (Array.getElem?_eq_some_iff.1 HNk.out).1)
    have HXz_v : Hid (bkz ≠ w12.heap.size) := Lib.hid (Nat.ne_of_lt (Array.getElem?_eq_some_iff.1 HNz.out).1)
    have HXy_v : Hid (bky ≠ w12.heap.size) := Lib.hid (Nat.ne_of_lt (Array.getElem?_eq_some_iff.1 HNy.out).1)
    replace HNc := Lib.hid ((hAlc.block _ (Array.getElem?_eq_some_iff.1 HNc.out).1).trans HNc.out)
    replace HNq := Lib.hid ((hAlc.block _ (Array.getElem?_eq_some_iff.1 HNq.out).1).trans HNq.out)
    replace HNk := Lib.hid ((hAlc.block _ (Array.getElem?_eq_some_iff.1 HNk.out).1).trans HNk.out)
    replace HNz := Lib.hid ((hAlc.block _ (Array.getElem?_eq_some_iff.1 HNz.out).1).trans HNz.out)
    replace HNy := Lib.hid ((hAlc.block _ (Array.getElem?_eq_some_iff.1 HNy.out).1).trans HNy.out)
    obtain ⟨av, hav⟩ : ∃ qq, w12.alloc (.cells #[.int .i64 XF, .int .i64 XT] 55) = qq := ⟨_, rfl⟩
    obtain ⟨bkv, hbv⟩ : ∃ qq, w12.heap.size = qq := ⟨_, rfl⟩
    rw [hav] at HB HNv HNc HNq HNk HNz HNy
    rw [hbv] at HNv HSv HXc_v HXq_v HXk_v HXz_v HXy_v
    clear hAlc
    obtain ⟨_, hm1, hm2, hm3⟩ := HMD.out
    have gx1 : decide (YL < XL) = false := decide_eq_false (by omega)
    have gx2 : decide (XH < YH) = false := decide_eq_false (by omega)
    clear hm1 hm2 HMD
    have HRD : Hid (∀ W', Below av.heap.size av W' → W'.cell? ⟨bkk, 0, none⟩ = some (.int .i64 RF) ∧ W'.cell? ⟨bkk, 1, none⟩ = some (.int .i64 RT) ∧ W'.cell? ⟨bkz, 0, none⟩ = some (.int .i64 YL) ∧ W'.cell? ⟨bkz, 1, none⟩ = some (.int .i64 YH) ∧ W'.cell? ⟨bky, 0, none⟩ = some (.int .i64 XL) ∧ W'.cell? ⟨bky, 1, none⟩ = some (.int .i64 XH) ∧ W'.cell? ⟨bkv, 0, none⟩ = some (.int .i64 XF) ∧ W'.cell? ⟨bkv, 1, none⟩ = some (.int .i64 XT)) := Lib.hid (fun W' h => ⟨cellH ((h.block _ (Array.getElem?_eq_some_iff.1 HNk.out).1).trans HNk.out) 0, cellH ((h.block _ (Array.getElem?_eq_some_iff.1 HNk.out).1).trans HNk.out) 1, cellH ((h.block _ (Array.getElem?_eq_some_iff.1 HNz.out).1).trans HNz.out) 0, cellH ((h.block _ (Array.getElem?_eq_some_iff.1 HNz.out).1).trans HNz.out) 1, cellH ((h.block _ (Array.getElem?_eq_some_iff.1 HNy.out).1).trans HNy.out) 0, cellH ((h.block _ (Array.getElem?_eq_some_iff.1 HNy.out).1).trans HNy.out) 1, cellH ((h.block _ (Array.getElem?_eq_some_iff.1 HNv.out).1).trans HNv.out) 0, cellH ((h.block _ (Array.getElem?_eq_some_iff.1 HNv.out).1).trans HNv.out) 1⟩)
    by_cases hx : XE = 0
    case neg =>
      have gx3 : (XE == 0) = false := by simpa using hx
      clear hx hm3
      go_wp2_with fail
      try clear hav hbv
      refine wp_region_turn 34 (fun _ w' => Below av.heap.size av w') (by kernel_rfl) (by kernel_rfl) ((Below.refl _ av).drew) ?_
      simp only [List.take_succ_cons, List.take_zero, List.drop_succ_cons, List.drop_zero]
      iterate 34
        (first
          | (apply turnC_skip (by rfl))
          | (apply turnC_step (by rfl); (intro w' hw'; obtain ⟨zk0, zk1, zz0, zz1, zy0, zy1, zv0, zv1⟩ := HRD.out w' hw'; go_simp; first | with_reducible exact ⟨hw', rfl⟩ | with_reducible exact ⟨hw', congrArg Value.bool gx1⟩ | with_reducible exact ⟨hw', congrArg Value.bool gx2⟩ | with_reducible exact ⟨hw', congrArg Value.bool gx3⟩ | with_reducible exact rfl)))
        simp only [Act.put, List.setIfInBounds_toArray, List.set_cons_succ, List.set_cons_zero]
      intro listed w13 _ hb
      replace HB := Lib.hid (HB.out.trans (hb.mono HB.out.size))
      replace HNc := Lib.hid ((hb.block _ (Array.getElem?_eq_some_iff.1 HNc.out).1).trans HNc.out)
      replace HNq := Lib.hid ((hb.block _ (Array.getElem?_eq_some_iff.1 HNq.out).1).trans HNq.out)
      replace HNk := Lib.hid ((hb.block _ (Array.getElem?_eq_some_iff.1 HNk.out).1).trans HNk.out)
      replace HNz := Lib.hid ((hb.block _ (Array.getElem?_eq_some_iff.1 HNz.out).1).trans HNz.out)
      replace HNy := Lib.hid ((hb.block _ (Array.getElem?_eq_some_iff.1 HNy.out).1).trans HNy.out)
      replace HNv := Lib.hid ((hb.block _ (Array.getElem?_eq_some_iff.1 HNv.out).1).trans HNv.out)
      clear hb
      clear gx1 gx2 gx3
      clear HNz HNy HNv
      have zc0 := cellH HNc.out 0
      have zc1 := cellH HNc.out 1
      have zq0 := cellH HNq.out 0
      have zq1 := cellH HNq.out 1
      have zq2 := cellH HNq.out 2
      have zq3 := cellH HNq.out 3
      simp only [List.getElem?_toArray, List.getElem?_cons_zero, List.getElem?_cons_succ] at zc0 zc1 zq0 zq1 zq2 zq3
      go_wp2_with fail
      refine (H3.out _ HB.out).mono ?_
      rintro e w14 ⟨rfl, hb⟩
      clear zc0 zc1 zq0 zq1 zq2 zq3
      replace HB := Lib.hid (HB.out.trans (hb.mono HB.out.size))
      replace HNc := Lib.hid ((hb.block _ (Array.getElem?_eq_some_iff.1 HNc.out).1).trans HNc.out)
      replace HNq := Lib.hid ((hb.block _ (Array.getElem?_eq_some_iff.1 HNq.out).1).trans HNq.out)
      replace HNk := Lib.hid ((hb.block _ (Array.getElem?_eq_some_iff.1 HNk.out).1).trans HNk.out)
      clear hb
      have HOI : Hid (OwI w14 w14.heap.size (.slice none 0 0) (idL (ks.take 0) RA RB)) := Lib.hid ⟨rfl, .inl ⟨rfl, rfl⟩⟩
      have HWB := Lib.hid HB.out.size
      have HQ : Hid (BlC w14 w14) := Lib.hid (Below.refl _ _)
      go_wp2_with fail
      go_loopw [21, 22] (fun x i wr => ∃ (k : Nat) (o : Value), k ≤ ks.length ∧ x = o ∧ i = .int .i64 k ∧ Hid (OwI wr w14.heap.size o (idL (ks.take k) RA RB)) ∧ Hid (Below w.heap.size w wr) ∧ Hid (wr.heap[w.heap.size]? = some (.cells #[.slice a1 cs.length c1, .slice (some ⟨b, off, none⟩) ks.length c2] 25 (0, 0))) ∧ Hid (wr.heap[w.heap.size + 1]? = some (.cells #[.int .i64 rc, .int .i64 rt, .int .i64 rs, .int .i64 rl] 53 (0, 0))) ∧ Hid (wr.heap[bkk]? = some (.cells #[.int .i64 RF, .int .i64 RT] 55 (0, 0))) ∧ Hid (BlC w14 wr)) (fun _ i _ => ks.length - (intOf i).toNat)
      case atStart => exact ⟨0, _, Nat.zero_le _, rfl, rfl, HOI, HB, HNc, HNq, HNk, HQ⟩
      case round =>
        clear HB HNc HNq HNk HQ
        clear HOI
        obtain ⟨k, o, hk, hx5, rfl, HOI, HB, HNc, HNq, HNk, HQ⟩ := hrel
        have hx5 := hx5.symm
        subst hx5
        have hm := HO.out.m
        by_cases hkl : k < ks.length
        · obtain ⟨b', off', hbo, hb, hat⟩ := HC2.out k hkl
          cases hbo
          obtain ⟨e0, e1, e2, e3, e4, e5, e6⟩ := hat.keep HB.out hb
          have hki : (k : Int) < ks.length := by omega
          have hk0 : (0 : Int) ≤ k := by omega
          have HKL := Lib.hid hkl
          have HST := Lib.hid (idL_step (a := RA) (b := RB) hkl)
          have hln := idL_len ks RA RB k
          obtain ⟨X, hX⟩ : ∃ X, (ks.getD k .nil).id = X := ⟨_, rfl⟩
          rw [hX] at e0 HST
          obtain ⟨FL, hFL⟩ : ∃ q, idL (ks.take k) RA RB = q := ⟨_, rfl⟩
          rw [hFL] at HST HOI hln
          clear hX hat hb hFL e1 e2 e3 e4 e5 e6
          have zc0 := cellH HNc.out 0
          have zc1 := cellH HNc.out 1
          simp only [List.getElem?_toArray, List.getElem?_cons_zero, List.getElem?_cons_succ] at zc0 zc1
          cases g1 : (X != RA)
          · have HN2 : Hid (idL (ks.take (k + 1)) RA RB = FL) := Lib.hid (by rw [HST.out, g1]; rfl)
            go_wp2_with fail
            go_roundw
            case rel => exact ⟨k + 1, o, HKL.out, rfl, by go_num, Lib.hid (by rw [HN2.out]; exact HOI.out), HB, HNc, HNq, HNk, HQ⟩
            case measure => have := HKL.out; simp [intOf]; omega
          cases g2 : (X != RB)
          · have HN2 : Hid (idL (ks.take (k + 1)) RA RB = FL) := Lib.hid (by rw [HST.out, g1, g2]; rfl)
            go_wp2_with fail
            go_roundw
            case rel => exact ⟨k + 1, o, HKL.out, rfl, by go_num, Lib.hid (by rw [HN2.out]; exact HOI.out), HB, HNc, HNq, HNk, HQ⟩
            case measure => have := HKL.out; simp [intOf]; omega
          have HN2 : Hid (idL (ks.take (k + 1)) RA RB = FL ++ [X]) := Lib.hid (by rw [HST.out, g1, g2]; rfl)
          have h63 : FL.length + 1 ≤ maxLen := by unfold maxLen; omega
          have hby : (FL.length + 1) * 8 ≤ 140737488355328 := by omega
          have hbase : w14.heap.size ≤ wr.heap.size := Below.size HQ.out
          have hO4 := HOI.out
          unfold OwI at hO4
          go_wp2_with (at_builtin; refine wpList_append_own _ rfl _ _ 31 rfl w14.heap.size 3 i0 (.int .i64 0) 1 8 Try.underlying31 hi0 hz0 hz1 hz2 rfl (by decide) _ _ _ rfl (World.ownsRow.alloc hO4 _) ⟨wr.heap.size, 0, none⟩ 1 1 [.int .i64 X] rfl rfl (fun j u h => cell_one' _ _ _ j u h) (by simp [Value.oneCell']) h63 hby (by simp; omega) ?_; intro v' w5 hown' hgrow _)
          have HB5 : Hid (Below w.heap.size w w5) := Lib.hid ((HB.out.alloc HB.out.size _).grown hgrow (by have := HB.out.size; simp; omega) (fun j e => Nat.le_trans HWB.out (World.ownsRow.lt hO4 j e).1))
          have HQ5 : Hid (BlC w14 w5) := Lib.hid ((Below.alloc HQ.out (Below.size HQ.out) _).grown hgrow (by simp; omega) (fun j e => (World.ownsRow.lt hO4 j e).1))
          have HO5 : Hid (OwI w5 w14.heap.size v' (idL (ks.take (k + 1)) RA RB)) := Lib.hid (by
            rw [HN2.out]
            unfold OwI
            rw [List.length_append, List.map_append]; exact hown')
          have HNc5 := Lib.hid ((hgrow.block (w.heap.size) (by have := (Array.getElem?_eq_some_iff.1 HNc.out).1; simp; omega) (own_neJ hO4 HNc.out (by decide))).trans ((((Below.refl wr.heap.size wr).alloc (Nat.le_refl _) _).block _ (Array.getElem?_eq_some_iff.1 HNc.out).1).trans HNc.out))
          have HNq5 := Lib.hid ((hgrow.block (w.heap.size + 1) (by have := (Array.getElem?_eq_some_iff.1 HNq.out).1; simp; omega) (own_neJ hO4 HNq.out (by decide))).trans ((((Below.refl wr.heap.size wr).alloc (Nat.le_refl _) _).block _ (Array.getElem?_eq_some_iff.1 HNq.out).1).trans HNq.out))
          have HNk5 := Lib.hid ((hgrow.block (bkk) (by have := (Array.getElem?_eq_some_iff.1 HNk.out).1; simp; omega) (own_neJ hO4 HNk.out (by decide))).trans ((((Below.refl wr.heap.size wr).alloc (Nat.le_refl _) _).block _ (Array.getElem?_eq_some_iff.1 HNk.out).1).trans HNk.out))
          clear hown' hgrow hO4
          go_roundw
          case rel => exact ⟨k + 1, v', HKL.out, rfl, by go_num, HO5, HB5, HNc5, HNq5, HNk5, HQ5⟩
          case measure => have := HKL.out; simp [intOf]; omega
        · obtain rfl : k = ks.length := by omega
          rw [List.take_length] at HOI
          have HWE := Lib.hid (woE_idL HC0.out RA RB)
          have hil : (idL ks RA RB).length ≤ 9223372036854775807 := by have := idL_len ks RA RB ks.length; rw [List.take_length] at this; omega
          have HIL := Lib.hid hil
          have HRI := Lib.hid (HOI.out.row)
          clear hil hkl hk hm HOI
          clear HQ
          have zc0 := cellH HNc.out 0
          have zc1 := cellH HNc.out 1
          simp only [List.getElem?_toArray, List.getElem?_cons_zero, List.getElem?_cons_succ] at zc0 zc1
          go_wp2_with fail
          refine (HWO.out _ _ _ HB.out HRI.out HIL.out).mono ?_
          rintro e w15 ⟨hb, _, hw⟩
          clear zc0 zc1
          replace HB := Lib.hid (HB.out.trans (hb.mono HB.out.size))
          replace HNc := Lib.hid ((hb.block _ (Array.getElem?_eq_some_iff.1 HNc.out).1).trans HNc.out)
          replace HNq := Lib.hid ((hb.block _ (Array.getElem?_eq_some_iff.1 HNq.out).1).trans HNq.out)
          replace HNk := Lib.hid ((hb.block _ (Array.getElem?_eq_some_iff.1 HNk.out).1).trans HNk.out)
          clear hb HRI
          obtain ⟨va, vb, rfl, hr1, hr2⟩ := hw HWE.out
          obtain ⟨pa, pb, rfl, _⟩ := hr1.form
          obtain ⟨qa, qb, rfl, _⟩ := hr2.form
          have hlk : (woC ks (idL ks RA RB)).length ≤ 60 := Nat.le_trans (List.length_filter_le _ _) HO.out.m
          have HLW1 := Lib.hid (fun w' h1 h2 => HLW.out (.slice pa cs.length pb) (.slice qa (woC ks (idL ks RA RB)).length qb) (woC ks (idL ks RA RB)) w' h1 h2 hlk HO.out.n)
          rw [wg_eq, HMS.out.1, HMS.out.2.1, HMS.out.2.2] at HLW1
          have HR1 := Lib.hid hr1
          have HR2 := Lib.hid hr2
          obtain ⟨KL2, hKL⟩ : ∃ q, woC ks (idL ks RA RB) = q := ⟨_, rfl⟩
          rw [hKL] at HLW1 HR2
          obtain ⟨KN2, hKN⟩ : ∃ q, KL2.length = q := ⟨_, rfl⟩
          rw [hKL, hKN]
          rw [hKN] at HLW1 HR2
          clear hw hr1 hr2 hlk hKL hKN HWE HMS HIL
          have hAlc : Below w15.heap.size w15 (w15.alloc (.cells #[.slice pa cs.length pb, .slice qa KN2 qb] 25)) := (Below.refl _ w15).alloc (Nat.le_refl _) _
          have HSso : Hid (w.heap.size ≤ w15.heap.size) := Lib.hid HB.out.size
          have HNso : Hid ((w15.alloc (.cells #[.slice pa cs.length pb, .slice qa KN2 qb] 25)).heap[w15.heap.size]? = some (.cells #[.slice pa cs.length pb, .slice qa KN2 qb] 25 (0, 0))) := Lib.hid (heap_alloc_new _ _)
          replace HB := Lib.hid (HB.out.trans (hAlc.mono HB.out.size))
          have HXc_so : Hid (w.heap.size ≠ w15.heap.size) := Lib.hid (Nat.ne_of_lt (Array.getElem?_eq_some_iff.1 HNc.out).1)
          have HXq_so : Hid (w.heap.size + 1 ≠ w15.heap.size) := Lib.hid (Nat.ne_of_lt (Array.getElem?_eq_some_iff.1 HNq.out).1)
          have HXk_so : Hid (bkk ≠ w15.heap.size) := Lib.hid (Nat.ne_of_lt (Array.getElem?_eq_some_iff.1 HNk.out).1)
          replace HNc := Lib.hid ((hAlc.block _ (Array.getElem?_eq_some_iff.1 HNc.out).1).trans HNc.out)
          replace HNq := Lib.hid ((hAlc.block _ (Array.getElem?_eq_some_iff.1 HNq.out).1).trans HNq.out)
          replace HNk := Lib.hid ((hAlc.block _ (Array.getElem?_eq_some_iff.1 HNk.out).1).trans HNk.out)
          replace HR1 := Lib.hid (HR1.out.keep hAlc)
          replace HR2 := Lib.hid (HR2.out.keep hAlc)
          obtain ⟨aso, haso⟩ : ∃ qq, w15.alloc (.cells #[.slice pa cs.length pb, .slice qa KN2 qb] 25) = qq := ⟨_, rfl⟩
          obtain ⟨bkso, hbso⟩ : ∃ qq, w15.heap.size = qq := ⟨_, rfl⟩
          rw [haso] at HB HNso HNc HNq HNk HR1 HR2
          rw [hbso] at HNso HSso HXc_so HXq_so HXk_so
          clear hAlc
          have zq0 := cellH HNq.out 0
          have zq1 := cellH HNq.out 1
          have zq2 := cellH HNq.out 2
          have zq3 := cellH HNq.out 3
          have zso0 := cellH HNso.out 0
          have zso1 := cellH HNso.out 1
          simp only [List.getElem?_toArray, List.getElem?_cons_zero, List.getElem?_cons_succ] at zq0 zq1 zq2 zq3 zso0 zso1
          go_wp2_with fail
          try clear haso hbso
          refine (HLW1.out _ HR1.out HR2.out).mono ?_
          rintro e w16 ⟨rfl, hb⟩
          clear zq0 zq1 zq2 zq3 zso0 zso1
          replace HB := Lib.hid (HB.out.trans (hb.mono HB.out.size))
          replace HNc := Lib.hid ((hb.block _ (Array.getElem?_eq_some_iff.1 HNc.out).1).trans HNc.out)
          replace HNq := Lib.hid ((hb.block _ (Array.getElem?_eq_some_iff.1 HNq.out).1).trans HNq.out)
          replace HNk := Lib.hid ((hb.block _ (Array.getElem?_eq_some_iff.1 HNk.out).1).trans HNk.out)
          replace HNso := Lib.hid ((hb.block _ (Array.getElem?_eq_some_iff.1 HNso.out).1).trans HNso.out)
          replace HR1 := Lib.hid (HR1.out.keep hb)
          replace HR2 := Lib.hid (HR2.out.keep hb)
          clear hb HR1 HR2 HLW1
          have hAlc : Below w16.heap.size w16 (w16.alloc (.cells #[.int .i64 RF, .int .i64 RT] 55)) := (Below.refl _ w16).alloc (Nat.le_refl _) _
          have HSu : Hid (w.heap.size ≤ w16.heap.size) := Lib.hid HB.out.size
          have HNu : Hid ((w16.alloc (.cells #[.int .i64 RF, .int .i64 RT] 55)).heap[w16.heap.size]? = some (.cells #[.int .i64 RF, .int .i64 RT] 55 (0, 0))) := Lib.hid (heap_alloc_new _ _)
          replace HB := Lib.hid (HB.out.trans (hAlc.mono HB.out.size))
          have HXc_u : Hid (w.heap.size ≠ w16.heap.size) := Lib.hid (Nat.ne_of_lt (Array.getElem?_eq_some_iff.1 HNc.out).1)
          have HXq_u : Hid (w.heap.size + 1 ≠ w16.heap.size) := Lib.hid (Nat.ne_of_lt (Array.getElem?_eq_some_iff.1 HNq.out).1)
          have HXk_u : Hid (bkk ≠ w16.heap.size) := Lib.hid (Nat.ne_of_lt (Array.getElem?_eq_some_iff.1 HNk.out).1)
          have HXso_u : Hid (bkso ≠ w16.heap.size) := Lib.hid (Nat.ne_of_lt (Array.getElem?_eq_some_iff.1 HNso.out).1)
          replace HNc := Lib.hid ((hAlc.block _ (Array.getElem?_eq_some_iff.1 HNc.out).1).trans HNc.out)
          replace HNq := Lib.hid ((hAlc.block _ (Array.getElem?_eq_some_iff.1 HNq.out).1).trans HNq.out)
          replace HNk := Lib.hid ((hAlc.block _ (Array.getElem?_eq_some_iff.1 HNk.out).1).trans HNk.out)
          replace HNso := Lib.hid ((hAlc.block _ (Array.getElem?_eq_some_iff.1 HNso.out).1).trans HNso.out)
          obtain ⟨au, hau⟩ : ∃ qq, w16.alloc (.cells #[.int .i64 RF, .int .i64 RT] 55) = qq := ⟨_, rfl⟩
          obtain ⟨bku, hbu⟩ : ∃ qq, w16.heap.size = qq := ⟨_, rfl⟩
          rw [hau] at HB HNu HNc HNq HNk HNso
          rw [hbu] at HNu HSu HXc_u HXq_u HXk_u HXso_u
          clear hAlc
          have zk0 := cellH HNk.out 0
          have zk1 := cellH HNk.out 1
          have zu0 := cellH HNu.out 0
          have zu1 := cellH HNu.out 1
          simp only [List.getElem?_toArray, List.getElem?_cons_zero, List.getElem?_cons_succ] at zk0 zk1 zu0 zu1
          go_wp2_with fail
          try clear hau hbu
          refine (H5.out _).mono ?_
          rintro e w17 ⟨rfl, hb⟩
          clear zk0 zk1 zu0 zu1
          replace HB := Lib.hid (HB.out.trans (hb.mono HB.out.size))
          replace HNc := Lib.hid ((hb.block _ (Array.getElem?_eq_some_iff.1 HNc.out).1).trans HNc.out)
          replace HNq := Lib.hid ((hb.block _ (Array.getElem?_eq_some_iff.1 HNq.out).1).trans HNq.out)
          replace HNk := Lib.hid ((hb.block _ (Array.getElem?_eq_some_iff.1 HNk.out).1).trans HNk.out)
          replace HNso := Lib.hid ((hb.block _ (Array.getElem?_eq_some_iff.1 HNso.out).1).trans HNso.out)
          replace HNu := Lib.hid ((hb.block _ (Array.getElem?_eq_some_iff.1 HNu.out).1).trans HNu.out)
          clear hb
          have zk0 := cellH HNk.out 0
          have zk1 := cellH HNk.out 1
          have zu0 := cellH HNu.out 0
          have zu1 := cellH HNu.out 1
          simp only [List.getElem?_toArray, List.getElem?_cons_zero, List.getElem?_cons_succ] at zk0 zk1 zu0 zu1
          go_wp2_with fail
          go_ret
          exact ⟨rfl, HB.out⟩
    have gx4 : decide (opI XF XT < opI RF RT) = false := decide_eq_false (by have := (hm3 hx).2; omega)
    obtain ⟨OV, hOV⟩ : ∃ q, opI XF XT = q := ⟨_, rfl⟩
    obtain ⟨OU, hOU⟩ : ∃ q, opI RF RT = q := ⟨_, rfl⟩
    have C1 := Lib.hid (upC (Z := av) (HOW.out XF XT))
    have C2 := Lib.hid (upC (Z := av) (HOW.out RF RT))
    rw [hOV] at C1 gx4
    rw [hOU] at C2 gx4
    subst hx
    clear hOV hOU hm3
    go_wp2_with fail
    try clear hav hbv
    refine wp_region_turn 34 (fun _ w' => Below av.heap.size av w') (by kernel_rfl) (by kernel_rfl) ((Below.refl _ av).drew) ?_
    simp only [List.take_succ_cons, List.take_zero, List.drop_succ_cons, List.drop_zero]
    iterate 34
      (first
        | (apply turnC_skip (by rfl))
        | (apply turnC_step (by rfl); (intro w' hw'; obtain ⟨zk0, zk1, zz0, zz1, zy0, zy1, zv0, zv1⟩ := HRD.out w' hw'; go_simp; first | with_reducible exact ⟨hw', rfl⟩ | with_reducible exact ⟨hw', congrArg Value.bool gx1⟩ | with_reducible exact ⟨hw', congrArg Value.bool gx2⟩ | with_reducible exact ⟨hw', congrArg Value.bool gx4⟩ | with_reducible exact rfl))
        | (apply turnC_step (by rfl); (intro w' hw'; go_simp; first | with_reducible exact C1.out w' hw' | with_reducible exact C2.out w' hw')))
      simp only [Act.put, List.setIfInBounds_toArray, List.set_cons_succ, List.set_cons_zero]
    intro listed w18 _ hb
    replace HB := Lib.hid (HB.out.trans (hb.mono HB.out.size))
    replace HNc := Lib.hid ((hb.block _ (Array.getElem?_eq_some_iff.1 HNc.out).1).trans HNc.out)
    replace HNq := Lib.hid ((hb.block _ (Array.getElem?_eq_some_iff.1 HNq.out).1).trans HNq.out)
    replace HNk := Lib.hid ((hb.block _ (Array.getElem?_eq_some_iff.1 HNk.out).1).trans HNk.out)
    replace HNz := Lib.hid ((hb.block _ (Array.getElem?_eq_some_iff.1 HNz.out).1).trans HNz.out)
    replace HNy := Lib.hid ((hb.block _ (Array.getElem?_eq_some_iff.1 HNy.out).1).trans HNy.out)
    replace HNv := Lib.hid ((hb.block _ (Array.getElem?_eq_some_iff.1 HNv.out).1).trans HNv.out)
    clear hb
    clear gx1 gx2 gx4 C1 C2
    clear HNz HNy HNv
    have zc0 := cellH HNc.out 0
    have zc1 := cellH HNc.out 1
    have zq0 := cellH HNq.out 0
    have zq1 := cellH HNq.out 1
    have zq2 := cellH HNq.out 2
    have zq3 := cellH HNq.out 3
    simp only [List.getElem?_toArray, List.getElem?_cons_zero, List.getElem?_cons_succ] at zc0 zc1 zq0 zq1 zq2 zq3
    go_wp2_with fail
    refine (H3.out _ HB.out).mono ?_
    rintro e w19 ⟨rfl, hb⟩
    clear zc0 zc1 zq0 zq1 zq2 zq3
    replace HB := Lib.hid (HB.out.trans (hb.mono HB.out.size))
    replace HNc := Lib.hid ((hb.block _ (Array.getElem?_eq_some_iff.1 HNc.out).1).trans HNc.out)
    replace HNq := Lib.hid ((hb.block _ (Array.getElem?_eq_some_iff.1 HNq.out).1).trans HNq.out)
    replace HNk := Lib.hid ((hb.block _ (Array.getElem?_eq_some_iff.1 HNk.out).1).trans HNk.out)
    clear hb
    have HOI : Hid (OwI w19 w19.heap.size (.slice none 0 0) (idL (ks.take 0) RA RB)) := Lib.hid ⟨rfl, .inl ⟨rfl, rfl⟩⟩
    have HWB := Lib.hid HB.out.size
    have HQ : Hid (BlC w19 w19) := Lib.hid (Below.refl _ _)
    go_wp2_with fail
    go_loopw [21, 22] (fun x i wr => ∃ (k : Nat) (o : Value), k ≤ ks.length ∧ x = o ∧ i = .int .i64 k ∧ Hid (OwI wr w19.heap.size o (idL (ks.take k) RA RB)) ∧ Hid (Below w.heap.size w wr) ∧ Hid (wr.heap[w.heap.size]? = some (.cells #[.slice a1 cs.length c1, .slice (some ⟨b, off, none⟩) ks.length c2] 25 (0, 0))) ∧ Hid (wr.heap[w.heap.size + 1]? = some (.cells #[.int .i64 rc, .int .i64 rt, .int .i64 rs, .int .i64 rl] 53 (0, 0))) ∧ Hid (wr.heap[bkk]? = some (.cells #[.int .i64 RF, .int .i64 RT] 55 (0, 0))) ∧ Hid (BlC w19 wr)) (fun _ i _ => ks.length - (intOf i).toNat)
    case atStart => exact ⟨0, _, Nat.zero_le _, rfl, rfl, HOI, HB, HNc, HNq, HNk, HQ⟩
    case round =>
      clear HB HNc HNq HNk HQ
      clear HOI
      obtain ⟨k, o, hk, hx5, rfl, HOI, HB, HNc, HNq, HNk, HQ⟩ := hrel
      have hx5 := hx5.symm
      subst hx5
      have hm := HO.out.m
      by_cases hkl : k < ks.length
      · obtain ⟨b', off', hbo, hb, hat⟩ := HC2.out k hkl
        cases hbo
        obtain ⟨e0, e1, e2, e3, e4, e5, e6⟩ := hat.keep HB.out hb
        have hki : (k : Int) < ks.length := by omega
        have hk0 : (0 : Int) ≤ k := by omega
        have HKL := Lib.hid hkl
        have HST := Lib.hid (idL_step (a := RA) (b := RB) hkl)
        have hln := idL_len ks RA RB k
        obtain ⟨X, hX⟩ : ∃ X, (ks.getD k .nil).id = X := ⟨_, rfl⟩
        rw [hX] at e0 HST
        obtain ⟨FL, hFL⟩ : ∃ q, idL (ks.take k) RA RB = q := ⟨_, rfl⟩
        rw [hFL] at HST HOI hln
        clear hX hat hb hFL e1 e2 e3 e4 e5 e6
        have zc0 := cellH HNc.out 0
        have zc1 := cellH HNc.out 1
        simp only [List.getElem?_toArray, List.getElem?_cons_zero, List.getElem?_cons_succ] at zc0 zc1
        cases g1 : (X != RA)
        · have HN2 : Hid (idL (ks.take (k + 1)) RA RB = FL) := Lib.hid (by rw [HST.out, g1]; rfl)
          go_wp2_with fail
          go_roundw
          case rel => exact ⟨k + 1, o, HKL.out, rfl, by go_num, Lib.hid (by rw [HN2.out]; exact HOI.out), HB, HNc, HNq, HNk, HQ⟩
          case measure => have := HKL.out; simp [intOf]; omega
        cases g2 : (X != RB)
        · have HN2 : Hid (idL (ks.take (k + 1)) RA RB = FL) := Lib.hid (by rw [HST.out, g1, g2]; rfl)
          go_wp2_with fail
          go_roundw
          case rel => exact ⟨k + 1, o, HKL.out, rfl, by go_num, Lib.hid (by rw [HN2.out]; exact HOI.out), HB, HNc, HNq, HNk, HQ⟩
          case measure => have := HKL.out; simp [intOf]; omega
        have HN2 : Hid (idL (ks.take (k + 1)) RA RB = FL ++ [X]) := Lib.hid (by rw [HST.out, g1, g2]; rfl)
        have h63 : FL.length + 1 ≤ maxLen := by unfold maxLen; omega
        have hby : (FL.length + 1) * 8 ≤ 140737488355328 := by omega
        have hbase : w19.heap.size ≤ wr.heap.size := Below.size HQ.out
        have hO4 := HOI.out
        unfold OwI at hO4
        go_wp2_with (at_builtin; refine wpList_append_own _ rfl _ _ 31 rfl w19.heap.size 3 i0 (.int .i64 0) 1 8 Try.underlying31 hi0 hz0 hz1 hz2 rfl (by decide) _ _ _ rfl (World.ownsRow.alloc hO4 _) ⟨wr.heap.size, 0, none⟩ 1 1 [.int .i64 X] rfl rfl (fun j u h => cell_one' _ _ _ j u h) (by simp [Value.oneCell']) h63 hby (by simp; omega) ?_; intro v' w5 hown' hgrow _)
        have HB5 : Hid (Below w.heap.size w w5) := Lib.hid ((HB.out.alloc HB.out.size _).grown hgrow (by have := HB.out.size; simp; omega) (fun j e => Nat.le_trans HWB.out (World.ownsRow.lt hO4 j e).1))
        have HQ5 : Hid (BlC w19 w5) := Lib.hid ((Below.alloc HQ.out (Below.size HQ.out) _).grown hgrow (by simp; omega) (fun j e => (World.ownsRow.lt hO4 j e).1))
        have HO5 : Hid (OwI w5 w19.heap.size v' (idL (ks.take (k + 1)) RA RB)) := Lib.hid (by
          rw [HN2.out]
          unfold OwI
          rw [List.length_append, List.map_append]; exact hown')
        have HNc5 := Lib.hid ((hgrow.block (w.heap.size) (by have := (Array.getElem?_eq_some_iff.1 HNc.out).1; simp; omega) (own_neJ hO4 HNc.out (by decide))).trans ((((Below.refl wr.heap.size wr).alloc (Nat.le_refl _) _).block _ (Array.getElem?_eq_some_iff.1 HNc.out).1).trans HNc.out))
        have HNq5 := Lib.hid ((hgrow.block (w.heap.size + 1) (by have := (Array.getElem?_eq_some_iff.1 HNq.out).1; simp; omega) (own_neJ hO4 HNq.out (by decide))).trans ((((Below.refl wr.heap.size wr).alloc (Nat.le_refl _) _).block _ (Array.getElem?_eq_some_iff.1 HNq.out).1).trans HNq.out))
        have HNk5 := Lib.hid ((hgrow.block (bkk) (by have := (Array.getElem?_eq_some_iff.1 HNk.out).1; simp; omega) (own_neJ hO4 HNk.out (by decide))).trans ((((Below.refl wr.heap.size wr).alloc (Nat.le_refl _) _).block _ (Array.getElem?_eq_some_iff.1 HNk.out).1).trans HNk.out))
        clear hown' hgrow hO4
        go_roundw
        case rel => exact ⟨k + 1, v', HKL.out, rfl, by go_num, HO5, HB5, HNc5, HNq5, HNk5, HQ5⟩
        case measure => have := HKL.out; simp [intOf]; omega
      · obtain rfl : k = ks.length := by omega
        rw [List.take_length] at HOI
        have HWE := Lib.hid (woE_idL HC0.out RA RB)
        have hil : (idL ks RA RB).length ≤ 9223372036854775807 := by have := idL_len ks RA RB ks.length; rw [List.take_length] at this; omega
        have HIL := Lib.hid hil
        have HRI := Lib.hid (HOI.out.row)
        clear hil hkl hk hm HOI
        clear HQ
        have zc0 := cellH HNc.out 0
        have zc1 := cellH HNc.out 1
        simp only [List.getElem?_toArray, List.getElem?_cons_zero, List.getElem?_cons_succ] at zc0 zc1
        go_wp2_with fail
        refine (HWO.out _ _ _ HB.out HRI.out HIL.out).mono ?_
        rintro e w20 ⟨hb, _, hw⟩
        clear zc0 zc1
        replace HB := Lib.hid (HB.out.trans (hb.mono HB.out.size))
        replace HNc := Lib.hid ((hb.block _ (Array.getElem?_eq_some_iff.1 HNc.out).1).trans HNc.out)
        replace HNq := Lib.hid ((hb.block _ (Array.getElem?_eq_some_iff.1 HNq.out).1).trans HNq.out)
        replace HNk := Lib.hid ((hb.block _ (Array.getElem?_eq_some_iff.1 HNk.out).1).trans HNk.out)
        clear hb HRI
        obtain ⟨va, vb, rfl, hr1, hr2⟩ := hw HWE.out
        obtain ⟨pa, pb, rfl, _⟩ := hr1.form
        obtain ⟨qa, qb, rfl, _⟩ := hr2.form
        have hlk : (woC ks (idL ks RA RB)).length ≤ 60 := Nat.le_trans (List.length_filter_le _ _) HO.out.m
        have HLW1 := Lib.hid (fun w' h1 h2 => HLW.out (.slice pa cs.length pb) (.slice qa (woC ks (idL ks RA RB)).length qb) (woC ks (idL ks RA RB)) w' h1 h2 hlk HO.out.n)
        rw [wg_eq, HMS.out.1, HMS.out.2.1, HMS.out.2.2] at HLW1
        have HR1 := Lib.hid hr1
        have HR2 := Lib.hid hr2
        obtain ⟨KL2, hKL⟩ : ∃ q, woC ks (idL ks RA RB) = q := ⟨_, rfl⟩
        rw [hKL] at HLW1 HR2
        obtain ⟨KN2, hKN⟩ : ∃ q, KL2.length = q := ⟨_, rfl⟩
        rw [hKL, hKN]
        rw [hKN] at HLW1 HR2
        clear hw hr1 hr2 hlk hKL hKN HWE HMS HIL
        have hAlc : Below w20.heap.size w20 (w20.alloc (.cells #[.slice pa cs.length pb, .slice qa KN2 qb] 25)) := (Below.refl _ w20).alloc (Nat.le_refl _) _
        have HSso : Hid (w.heap.size ≤ w20.heap.size) := Lib.hid HB.out.size
        have HNso : Hid ((w20.alloc (.cells #[.slice pa cs.length pb, .slice qa KN2 qb] 25)).heap[w20.heap.size]? = some (.cells #[.slice pa cs.length pb, .slice qa KN2 qb] 25 (0, 0))) := Lib.hid (heap_alloc_new _ _)
        replace HB := Lib.hid (HB.out.trans (hAlc.mono HB.out.size))
        have HXc_so : Hid (w.heap.size ≠ w20.heap.size) := Lib.hid (Nat.ne_of_lt (Array.getElem?_eq_some_iff.1 HNc.out).1)
        have HXq_so : Hid (w.heap.size + 1 ≠ w20.heap.size) := Lib.hid (Nat.ne_of_lt (Array.getElem?_eq_some_iff.1 HNq.out).1)
        have HXk_so : Hid (bkk ≠ w20.heap.size) := Lib.hid (Nat.ne_of_lt (Array.getElem?_eq_some_iff.1 HNk.out).1)
        replace HNc := Lib.hid ((hAlc.block _ (Array.getElem?_eq_some_iff.1 HNc.out).1).trans HNc.out)
        replace HNq := Lib.hid ((hAlc.block _ (Array.getElem?_eq_some_iff.1 HNq.out).1).trans HNq.out)
        replace HNk := Lib.hid ((hAlc.block _ (Array.getElem?_eq_some_iff.1 HNk.out).1).trans HNk.out)
        replace HR1 := Lib.hid (HR1.out.keep hAlc)
        replace HR2 := Lib.hid (HR2.out.keep hAlc)
        obtain ⟨aso, haso⟩ : ∃ qq, w20.alloc (.cells #[.slice pa cs.length pb, .slice qa KN2 qb] 25) = qq := ⟨_, rfl⟩
        obtain ⟨bkso, hbso⟩ : ∃ qq, w20.heap.size = qq := ⟨_, rfl⟩
        rw [haso] at HB HNso HNc HNq HNk HR1 HR2
        rw [hbso] at HNso HSso HXc_so HXq_so HXk_so
        clear hAlc
        have zq0 := cellH HNq.out 0
        have zq1 := cellH HNq.out 1
        have zq2 := cellH HNq.out 2
        have zq3 := cellH HNq.out 3
        have zso0 := cellH HNso.out 0
        have zso1 := cellH HNso.out 1
        simp only [List.getElem?_toArray, List.getElem?_cons_zero, List.getElem?_cons_succ] at zq0 zq1 zq2 zq3 zso0 zso1
        go_wp2_with fail
        try clear haso hbso
        refine (HLW1.out _ HR1.out HR2.out).mono ?_
        rintro e w21 ⟨rfl, hb⟩
        clear zq0 zq1 zq2 zq3 zso0 zso1
        replace HB := Lib.hid (HB.out.trans (hb.mono HB.out.size))
        replace HNc := Lib.hid ((hb.block _ (Array.getElem?_eq_some_iff.1 HNc.out).1).trans HNc.out)
        replace HNq := Lib.hid ((hb.block _ (Array.getElem?_eq_some_iff.1 HNq.out).1).trans HNq.out)
        replace HNk := Lib.hid ((hb.block _ (Array.getElem?_eq_some_iff.1 HNk.out).1).trans HNk.out)
        replace HNso := Lib.hid ((hb.block _ (Array.getElem?_eq_some_iff.1 HNso.out).1).trans HNso.out)
        replace HR1 := Lib.hid (HR1.out.keep hb)
        replace HR2 := Lib.hid (HR2.out.keep hb)
        clear hb HR1 HR2 HLW1
        have hAlc : Below w21.heap.size w21 (w21.alloc (.cells #[.int .i64 RF, .int .i64 RT] 55)) := (Below.refl _ w21).alloc (Nat.le_refl _) _
        have HSu : Hid (w.heap.size ≤ w21.heap.size) := Lib.hid HB.out.size
        have HNu : Hid ((w21.alloc (.cells #[.int .i64 RF, .int .i64 RT] 55)).heap[w21.heap.size]? = some (.cells #[.int .i64 RF, .int .i64 RT] 55 (0, 0))) := Lib.hid (heap_alloc_new _ _)
        replace HB := Lib.hid (HB.out.trans (hAlc.mono HB.out.size))
        have HXc_u : Hid (w.heap.size ≠ w21.heap.size) := Lib.hid (Nat.ne_of_lt (Array.getElem?_eq_some_iff.1 HNc.out).1)
        have HXq_u : Hid (w.heap.size + 1 ≠ w21.heap.size) := Lib.hid (Nat.ne_of_lt (Array.getElem?_eq_some_iff.1 HNq.out).1)
        have HXk_u : Hid (bkk ≠ w21.heap.size) := Lib.hid (Nat.ne_of_lt (Array.getElem?_eq_some_iff.1 HNk.out).1)
        have HXso_u : Hid (bkso ≠ w21.heap.size) := Lib.hid (Nat.ne_of_lt (Array.getElem?_eq_some_iff.1 HNso.out).1)
        replace HNc := Lib.hid ((hAlc.block _ (Array.getElem?_eq_some_iff.1 HNc.out).1).trans HNc.out)
        replace HNq := Lib.hid ((hAlc.block _ (Array.getElem?_eq_some_iff.1 HNq.out).1).trans HNq.out)
        replace HNk := Lib.hid ((hAlc.block _ (Array.getElem?_eq_some_iff.1 HNk.out).1).trans HNk.out)
        replace HNso := Lib.hid ((hAlc.block _ (Array.getElem?_eq_some_iff.1 HNso.out).1).trans HNso.out)
        obtain ⟨au, hau⟩ : ∃ qq, w21.alloc (.cells #[.int .i64 RF, .int .i64 RT] 55) = qq := ⟨_, rfl⟩
        obtain ⟨bku, hbu⟩ : ∃ qq, w21.heap.size = qq := ⟨_, rfl⟩
        rw [hau] at HB HNu HNc HNq HNk HNso
        rw [hbu] at HNu HSu HXc_u HXq_u HXk_u HXso_u
        clear hAlc
        have zk0 := cellH HNk.out 0
        have zk1 := cellH HNk.out 1
        have zu0 := cellH HNu.out 0
        have zu1 := cellH HNu.out 1
        simp only [List.getElem?_toArray, List.getElem?_cons_zero, List.getElem?_cons_succ] at zk0 zk1 zu0 zu1
        go_wp2_with fail
        try clear hau hbu
        refine (H5.out _).mono ?_
        rintro e w22 ⟨rfl, hb⟩
        clear zk0 zk1 zu0 zu1
        replace HB := Lib.hid (HB.out.trans (hb.mono HB.out.size))
        replace HNc := Lib.hid ((hb.block _ (Array.getElem?_eq_some_iff.1 HNc.out).1).trans HNc.out)
        replace HNq := Lib.hid ((hb.block _ (Array.getElem?_eq_some_iff.1 HNq.out).1).trans HNq.out)
        replace HNk := Lib.hid ((hb.block _ (Array.getElem?_eq_some_iff.1 HNk.out).1).trans HNk.out)
        replace HNso := Lib.hid ((hb.block _ (Array.getElem?_eq_some_iff.1 HNso.out).1).trans HNso.out)
        replace HNu := Lib.hid ((hb.block _ (Array.getElem?_eq_some_iff.1 HNu.out).1).trans HNu.out)
        clear hb
        have zk0 := cellH HNk.out 0
        have zk1 := cellH HNk.out 1
        have zu0 := cellH HNu.out 0
        have zu1 := cellH HNu.out 1
        simp only [List.getElem?_toArray, List.getElem?_cons_zero, List.getElem?_cons_succ] at zk0 zk1 zu0 zu1
        go_wp2_with fail
        go_ret
        exact ⟨rfl, HB.out⟩
  · clear gEE
    go_wp2_with fail
    try clear haz hbz
    go_quiet (fail)
    clear zc0 zc1
    clear e0 hjt ht1 hmne
    obtain ⟨wq, hwq⟩ : ∃ q, az.drewN nq = q := ⟨_, rfl⟩
    have hbq : Below az.heap.size az wq := by rw [← hwq]; exact belowN (Below.refl _ _) _
    rw [hwq]
    clear hwq
    replace HB := Lib.hid (HB.out.trans (hbq.mono HB.out.size))
    replace HNc := Lib.hid ((hbq.block _ (Array.getElem?_eq_some_iff.1 HNc.out).1).trans HNc.out)
    replace HNq := Lib.hid ((hbq.block _ (Array.getElem?_eq_some_iff.1 HNq.out).1).trans HNq.out)
    replace HNk := Lib.hid ((hbq.block _ (Array.getElem?_eq_some_iff.1 HNk.out).1).trans HNk.out)
    replace HNz := Lib.hid ((hbq.block _ (Array.getElem?_eq_some_iff.1 HNz.out).1).trans HNz.out)
    clear hbq
    have zc0 := cellH HNc.out 0
    have zc1 := cellH HNc.out 1
    simp only [List.getElem?_toArray, List.getElem?_cons_zero, List.getElem?_cons_succ] at zc0 zc1
    have hAlc : Below wq.heap.size wq (wq.alloc (.cells #[.int .i64 ID] 3)) := (Below.refl _ wq).alloc (Nat.le_refl _) _
    have HSdi : Hid (w.heap.size ≤ wq.heap.size) := Lib.hid HB.out.size
    have HNdi : Hid ((wq.alloc (.cells #[.int .i64 ID] 3)).heap[wq.heap.size]? = some (.cells #[.int .i64 ID] 3 (0, 0))) := Lib.hid (heap_alloc_new _ _)
    replace HB := Lib.hid (HB.out.trans (hAlc.mono HB.out.size))
    have HXc_di : Hid (w.heap.size ≠ wq.heap.size) := Lib.hid (Nat.ne_of_lt (Array.getElem?_eq_some_iff.1 HNc.out).1)
    have HXq_di : Hid (w.heap.size + 1 ≠ wq.heap.size) := Lib.hid (Nat.ne_of_lt (Array.getElem?_eq_some_iff.1 HNq.out).1)
    have HXk_di : Hid (bkk ≠ wq.heap.size) := Lib.hid (Nat.ne_of_lt (Array.getElem?_eq_some_iff.1 HNk.out).1)
    have HXz_di : Hid (bkz ≠ wq.heap.size) := Lib.hid (Nat.ne_of_lt (Array.getElem?_eq_some_iff.1 HNz.out).1)
    replace HNc := Lib.hid ((hAlc.block _ (Array.getElem?_eq_some_iff.1 HNc.out).1).trans HNc.out)
    replace HNq := Lib.hid ((hAlc.block _ (Array.getElem?_eq_some_iff.1 HNq.out).1).trans HNq.out)
    replace HNk := Lib.hid ((hAlc.block _ (Array.getElem?_eq_some_iff.1 HNk.out).1).trans HNk.out)
    replace HNz := Lib.hid ((hAlc.block _ (Array.getElem?_eq_some_iff.1 HNz.out).1).trans HNz.out)
    obtain ⟨adi, hadi⟩ : ∃ qq, wq.alloc (.cells #[.int .i64 ID] 3) = qq := ⟨_, rfl⟩
    obtain ⟨bkdi, hbdi⟩ : ∃ qq, wq.heap.size = qq := ⟨_, rfl⟩
    rw [hadi] at HB HNdi HNc HNq HNk HNz
    rw [hbdi] at HNdi HSdi HXc_di HXq_di HXk_di HXz_di
    clear hAlc
    have HRI := Lib.hid (row_one ID HNdi.out)
    go_wp2_with fail
    try clear hadi hbdi
    refine (HWO.out _ [ID] _ HB.out HRI.out (by simp)).mono ?_
    rintro e w23 ⟨hb, _, hw⟩
    clear zc0 zc1
    replace HB := Lib.hid (HB.out.trans (hb.mono HB.out.size))
    replace HNc := Lib.hid ((hb.block _ (Array.getElem?_eq_some_iff.1 HNc.out).1).trans HNc.out)
    replace HNq := Lib.hid ((hb.block _ (Array.getElem?_eq_some_iff.1 HNq.out).1).trans HNq.out)
    replace HNk := Lib.hid ((hb.block _ (Array.getElem?_eq_some_iff.1 HNk.out).1).trans HNk.out)
    replace HNz := Lib.hid ((hb.block _ (Array.getElem?_eq_some_iff.1 HNz.out).1).trans HNz.out)
    replace HNdi := Lib.hid ((hb.block _ (Array.getElem?_eq_some_iff.1 HNdi.out).1).trans HNdi.out)
    clear hb HRI
    obtain ⟨va, vb, rfl, hr1, hr2⟩ := hw HWE.out
    obtain ⟨ua, ub, rfl, _⟩ := hr1.form
    obtain ⟨ta, tb, rfl, _⟩ := hr2.form
    have hlk : (woC ks [ID]).length ≤ 60 := Nat.le_trans (List.length_filter_le _ _) HO.out.m
    have HMD := Lib.hid (HMC.out (fun j => !([ID] : List Int).contains j))
    have HLZ1 := Lib.hid (fun w' h1 h2 => HLZ.out (.slice ua cs.length ub) (.slice ta (woC ks [ID]).length tb) (woC ks [ID]) w' h1 h2 hlk HO.out.n)
    have HLW1 := Lib.hid (fun w' h1 h2 => HLW.out (.slice ua cs.length ub) (.slice ta (woC ks [ID]).length tb) (woC ks [ID]) w' h1 h2 hlk HO.out.n)
    change Hid (zrE cs (woC ks [ID]) rc rt = 0 ∧ zrL cs (woC ks [ID]) rc rt ≤ YL ∧ YH ≤ zrH cs (woC ks [ID]) rc rt ∧ (rwE cs (woC ks [ID]) rc rt rs rl = 0 → RX = 0 ∧ opI RF RT ≤ opI (rwF cs (woC ks [ID]) rc rt rs rl) (rwT cs (woC ks [ID]) rc rt rs rl))) at HMD
    have hzv : zrV cs (woC ks [ID]) rc rt = .tuple #[.agg #[.int .i64 (zrL cs (woC ks [ID]) rc rt), .int .i64 (zrH cs (woC ks [ID]) rc rt)], .int .i64 0] := by unfold zrV; rw [if_pos HMD.out.1]
    rw [hzv] at HLZ1
    rw [wg_eq] at HLW1
    have HR1 := Lib.hid hr1
    have HR2 := Lib.hid hr2
    obtain ⟨KL, hKL⟩ : ∃ q, woC ks [ID] = q := ⟨_, rfl⟩
    rw [hKL] at HMD HLZ1 HLW1 HR2
    obtain ⟨XL, hXL⟩ : ∃ q, zrL cs KL rc rt = q := ⟨_, rfl⟩
    obtain ⟨XH, hXH⟩ : ∃ q, zrH cs KL rc rt = q := ⟨_, rfl⟩
    obtain ⟨XE, hXE⟩ : ∃ q, rwE cs KL rc rt rs rl = q := ⟨_, rfl⟩
    obtain ⟨XF, hXF⟩ : ∃ q, rwF cs KL rc rt rs rl = q := ⟨_, rfl⟩
    obtain ⟨XT, hXT⟩ : ∃ q, rwT cs KL rc rt rs rl = q := ⟨_, rfl⟩
    obtain ⟨KN, hKN⟩ : ∃ q, KL.length = q := ⟨_, rfl⟩
    rw [hKL, hKN]
    rw [hXL, hXH, hXE, hXF, hXT] at HMD
    rw [hXL, hXH, hKN] at HLZ1
    rw [hXE, hXF, hXT, hKN] at HLW1
    rw [hKN] at HR2
    clear hw hr1 hr2 hlk hzv hKL hXL hXH hXE hXF hXT hKN HWE HMC
    clear HNdi
    have hAlc : Below w23.heap.size w23 (w23.alloc (.cells #[.slice ua cs.length ub, .slice ta KN tb] 25)) := (Below.refl _ w23).alloc (Nat.le_refl _) _
    have HSls : Hid (w.heap.size ≤ w23.heap.size) := Lib.hid HB.out.size
    have HNls : Hid ((w23.alloc (.cells #[.slice ua cs.length ub, .slice ta KN tb] 25)).heap[w23.heap.size]? = some (.cells #[.slice ua cs.length ub, .slice ta KN tb] 25 (0, 0))) := Lib.hid (heap_alloc_new _ _)
    replace HB := Lib.hid (HB.out.trans (hAlc.mono HB.out.size))
    have HXc_ls : Hid (w.heap.size ≠ w23.heap.size) := Lib.hid (Nat.ne_of_lt (Array.getElem?_eq_some_iff.1 HNc.out).1)
    have HXq_ls : Hid (w.heap.size + 1 ≠ w23.heap.size) := Lib.hid (Nat.ne_of_lt (Array.getElem?_eq_some_iff.1 HNq.out).1)
    have HXk_ls : Hid (bkk ≠ w23.heap.size) := Lib.hid (Nat.ne_of_lt (Array.getElem?_eq_some_iff.1 HNk.out).1)
    have HXz_ls : Hid (bkz ≠ w23.heap.size) := Lib.hid (Nat.ne_of_lt (Array.getElem?_eq_some_iff.1 HNz.out).1)
    replace HNc := Lib.hid ((hAlc.block _ (Array.getElem?_eq_some_iff.1 HNc.out).1).trans HNc.out)
    replace HNq := Lib.hid ((hAlc.block _ (Array.getElem?_eq_some_iff.1 HNq.out).1).trans HNq.out)
    replace HNk := Lib.hid ((hAlc.block _ (Array.getElem?_eq_some_iff.1 HNk.out).1).trans HNk.out)
    replace HNz := Lib.hid ((hAlc.block _ (Array.getElem?_eq_some_iff.1 HNz.out).1).trans HNz.out)
    replace HR1 := Lib.hid (HR1.out.keep hAlc)
    replace HR2 := Lib.hid (HR2.out.keep hAlc)
    obtain ⟨als, hals⟩ : ∃ qq, w23.alloc (.cells #[.slice ua cs.length ub, .slice ta KN tb] 25) = qq := ⟨_, rfl⟩
    obtain ⟨bkls, hbls⟩ : ∃ qq, w23.heap.size = qq := ⟨_, rfl⟩
    rw [hals] at HB HNls HNc HNq HNk HNz HR1 HR2
    rw [hbls] at HNls HSls HXc_ls HXq_ls HXk_ls HXz_ls
    clear hAlc
    have zq0 := cellH HNq.out 0
    have zq1 := cellH HNq.out 1
    have zq2 := cellH HNq.out 2
    have zq3 := cellH HNq.out 3
    have zls0 := cellH HNls.out 0
    have zls1 := cellH HNls.out 1
    simp only [List.getElem?_toArray, List.getElem?_cons_zero, List.getElem?_cons_succ] at zq0 zq1 zq2 zq3 zls0 zls1
    go_wp2_with fail
    try clear hals hbls
    refine (HLZ1.out _ HR1.out HR2.out).mono ?_
    rintro e w24 ⟨rfl, hb⟩
    clear zq0 zq1 zq2 zq3 zls0 zls1
    replace HB := Lib.hid (HB.out.trans (hb.mono HB.out.size))
    replace HNc := Lib.hid ((hb.block _ (Array.getElem?_eq_some_iff.1 HNc.out).1).trans HNc.out)
    replace HNq := Lib.hid ((hb.block _ (Array.getElem?_eq_some_iff.1 HNq.out).1).trans HNq.out)
    replace HNk := Lib.hid ((hb.block _ (Array.getElem?_eq_some_iff.1 HNk.out).1).trans HNk.out)
    replace HNz := Lib.hid ((hb.block _ (Array.getElem?_eq_some_iff.1 HNz.out).1).trans HNz.out)
    replace HNls := Lib.hid ((hb.block _ (Array.getElem?_eq_some_iff.1 HNls.out).1).trans HNls.out)
    replace HR1 := Lib.hid (HR1.out.keep hb)
    replace HR2 := Lib.hid (HR2.out.keep hb)
    clear hb
    have hAlc : Below w24.heap.size w24 (w24.alloc (.cells #[.int .i64 XL, .int .i64 XH] 27)) := (Below.refl _ w24).alloc (Nat.le_refl _) _
    have HSy : Hid (w.heap.size ≤ w24.heap.size) := Lib.hid HB.out.size
    have HNy : Hid ((w24.alloc (.cells #[.int .i64 XL, .int .i64 XH] 27)).heap[w24.heap.size]? = some (.cells #[.int .i64 XL, .int .i64 XH] 27 (0, 0))) := Lib.hid (heap_alloc_new _ _)
    replace HB := Lib.hid (HB.out.trans (hAlc.mono HB.out.size))
    have HXc_y : Hid (w.heap.size ≠ w24.heap.size) := Lib.hid (Nat.ne_of_lt (Array.getElem?_eq_some_iff.1 HNc.out).1)
    have HXq_y : Hid (w.heap.size + 1 ≠ w24.heap.size) := Lib.hid (Nat.ne_of_lt (Array.getElem?_eq_some_iff.1 HNq.out).1)
    have HXk_y : Hid (bkk ≠ w24.heap.size) := Lib.hid (Nat.ne_of_lt (Array.getElem?_eq_some_iff.1 HNk.out).1)
    have HXz_y : Hid (bkz ≠ w24.heap.size) := Lib.hid (Nat.ne_of_lt (Array.getElem?_eq_some_iff.1 HNz.out).1)
    have HXls_y : Hid (bkls ≠ w24.heap.size) := Lib.hid (Nat.ne_of_lt (Array.getElem?_eq_some_iff.1 HNls.out).1)
    replace HNc := Lib.hid ((hAlc.block _ (Array.getElem?_eq_some_iff.1 HNc.out).1).trans HNc.out)
    replace HNq := Lib.hid ((hAlc.block _ (Array.getElem?_eq_some_iff.1 HNq.out).1).trans HNq.out)
    replace HNk := Lib.hid ((hAlc.block _ (Array.getElem?_eq_some_iff.1 HNk.out).1).trans HNk.out)
    replace HNz := Lib.hid ((hAlc.block _ (Array.getElem?_eq_some_iff.1 HNz.out).1).trans HNz.out)
    replace HNls := Lib.hid ((hAlc.block _ (Array.getElem?_eq_some_iff.1 HNls.out).1).trans HNls.out)
    replace HR1 := Lib.hid (HR1.out.keep hAlc)
    replace HR2 := Lib.hid (HR2.out.keep hAlc)
    obtain ⟨ay, hay⟩ : ∃ qq, w24.alloc (.cells #[.int .i64 XL, .int .i64 XH] 27) = qq := ⟨_, rfl⟩
    obtain ⟨bky, hby⟩ : ∃ qq, w24.heap.size = qq := ⟨_, rfl⟩
    rw [hay] at HB HNy HNc HNq HNk HNz HNls HR1 HR2
    rw [hby] at HNy HSy HXc_y HXq_y HXk_y HXz_y HXls_y
    clear hAlc
    have zq0 := cellH HNq.out 0
    have zq1 := cellH HNq.out 1
    have zq2 := cellH HNq.out 2
    have zq3 := cellH HNq.out 3
    have zls0 := cellH HNls.out 0
    have zls1 := cellH HNls.out 1
    simp only [List.getElem?_toArray, List.getElem?_cons_zero, List.getElem?_cons_succ] at zq0 zq1 zq2 zq3 zls0 zls1
    go_wp2_with fail
    try clear hay hby
    refine (HLW1.out _ HR1.out HR2.out).mono ?_
    rintro e w25 ⟨rfl, hb⟩
    clear zq0 zq1 zq2 zq3 zls0 zls1
    replace HB := Lib.hid (HB.out.trans (hb.mono HB.out.size))
    replace HNc := Lib.hid ((hb.block _ (Array.getElem?_eq_some_iff.1 HNc.out).1).trans HNc.out)
    replace HNq := Lib.hid ((hb.block _ (Array.getElem?_eq_some_iff.1 HNq.out).1).trans HNq.out)
    replace HNk := Lib.hid ((hb.block _ (Array.getElem?_eq_some_iff.1 HNk.out).1).trans HNk.out)
    replace HNz := Lib.hid ((hb.block _ (Array.getElem?_eq_some_iff.1 HNz.out).1).trans HNz.out)
    replace HNls := Lib.hid ((hb.block _ (Array.getElem?_eq_some_iff.1 HNls.out).1).trans HNls.out)
    replace HNy := Lib.hid ((hb.block _ (Array.getElem?_eq_some_iff.1 HNy.out).1).trans HNy.out)
    replace HR1 := Lib.hid (HR1.out.keep hb)
    replace HR2 := Lib.hid (HR2.out.keep hb)
    clear hb HR1 HR2 HLZ1 HLW1
    clear HNls
    have hAlc : Below w25.heap.size w25 (w25.alloc (.cells #[.int .i64 XF, .int .i64 XT] 55)) := (Below.refl _ w25).alloc (Nat.le_refl _) _
    have HSv : Hid (w.heap.size ≤ w25.heap.size) := Lib.hid HB.out.size
    have HNv : Hid ((w25.alloc (.cells #[.int .i64 XF, .int .i64 XT] 55)).heap[w25.heap.size]? = some (.cells #[.int .i64 XF, .int .i64 XT] 55 (0, 0))) := Lib.hid (heap_alloc_new _ _)
    replace HB := Lib.hid (HB.out.trans (hAlc.mono HB.out.size))
    have HXc_v : Hid (w.heap.size ≠ w25.heap.size) := Lib.hid (Nat.ne_of_lt (Array.getElem?_eq_some_iff.1 HNc.out).1)
    have HXq_v : Hid (w.heap.size + 1 ≠ w25.heap.size) := Lib.hid (Nat.ne_of_lt (Array.getElem?_eq_some_iff.1 HNq.out).1)
    have HXk_v : Hid (bkk ≠ w25.heap.size) := Lib.hid (Nat.ne_of_lt (Array.getElem?_eq_some_iff.1 HNk.out).1)
    have HXz_v : Hid (bkz ≠ w25.heap.size) := Lib.hid (Nat.ne_of_lt (Array.getElem?_eq_some_iff.1 HNz.out).1)
    have HXy_v : Hid (bky ≠ w25.heap.size) := Lib.hid (Nat.ne_of_lt (Array.getElem?_eq_some_iff.1 HNy.out).1)
    replace HNc := Lib.hid ((hAlc.block _ (Array.getElem?_eq_some_iff.1 HNc.out).1).trans HNc.out)
    replace HNq := Lib.hid ((hAlc.block _ (Array.getElem?_eq_some_iff.1 HNq.out).1).trans HNq.out)
    replace HNk := Lib.hid ((hAlc.block _ (Array.getElem?_eq_some_iff.1 HNk.out).1).trans HNk.out)
    replace HNz := Lib.hid ((hAlc.block _ (Array.getElem?_eq_some_iff.1 HNz.out).1).trans HNz.out)
    replace HNy := Lib.hid ((hAlc.block _ (Array.getElem?_eq_some_iff.1 HNy.out).1).trans HNy.out)
    obtain ⟨av, hav⟩ : ∃ qq, w25.alloc (.cells #[.int .i64 XF, .int .i64 XT] 55) = qq := ⟨_, rfl⟩
    obtain ⟨bkv, hbv⟩ : ∃ qq, w25.heap.size = qq := ⟨_, rfl⟩
    rw [hav] at HB HNv HNc HNq HNk HNz HNy
    rw [hbv] at HNv HSv HXc_v HXq_v HXk_v HXz_v HXy_v
    clear hAlc
    obtain ⟨_, hm1, hm2, hm3⟩ := HMD.out
    have gx1 : decide (YL < XL) = false := decide_eq_false (by omega)
    have gx2 : decide (XH < YH) = false := decide_eq_false (by omega)
    clear hm1 hm2 HMD
    have HRD : Hid (∀ W', Below av.heap.size av W' → W'.cell? ⟨bkk, 0, none⟩ = some (.int .i64 RF) ∧ W'.cell? ⟨bkk, 1, none⟩ = some (.int .i64 RT) ∧ W'.cell? ⟨bkz, 0, none⟩ = some (.int .i64 YL) ∧ W'.cell? ⟨bkz, 1, none⟩ = some (.int .i64 YH) ∧ W'.cell? ⟨bky, 0, none⟩ = some (.int .i64 XL) ∧ W'.cell? ⟨bky, 1, none⟩ = some (.int .i64 XH) ∧ W'.cell? ⟨bkv, 0, none⟩ = some (.int .i64 XF) ∧ W'.cell? ⟨bkv, 1, none⟩ = some (.int .i64 XT)) := Lib.hid (fun W' h => ⟨cellH ((h.block _ (Array.getElem?_eq_some_iff.1 HNk.out).1).trans HNk.out) 0, cellH ((h.block _ (Array.getElem?_eq_some_iff.1 HNk.out).1).trans HNk.out) 1, cellH ((h.block _ (Array.getElem?_eq_some_iff.1 HNz.out).1).trans HNz.out) 0, cellH ((h.block _ (Array.getElem?_eq_some_iff.1 HNz.out).1).trans HNz.out) 1, cellH ((h.block _ (Array.getElem?_eq_some_iff.1 HNy.out).1).trans HNy.out) 0, cellH ((h.block _ (Array.getElem?_eq_some_iff.1 HNy.out).1).trans HNy.out) 1, cellH ((h.block _ (Array.getElem?_eq_some_iff.1 HNv.out).1).trans HNv.out) 0, cellH ((h.block _ (Array.getElem?_eq_some_iff.1 HNv.out).1).trans HNv.out) 1⟩)
    by_cases hx : XE = 0
    case neg =>
      have gx3 : (XE == 0) = false := by simpa using hx
      clear hx hm3
      go_wp2_with fail
      try clear hav hbv
      refine wp_region_turn 34 (fun _ w' => Below av.heap.size av w') (by kernel_rfl) (by kernel_rfl) ((Below.refl _ av).drew) ?_
      simp only [List.take_succ_cons, List.take_zero, List.drop_succ_cons, List.drop_zero]
      iterate 34
        (first
          | (apply turnC_skip (by rfl))
          | (apply turnC_step (by rfl); (intro w' hw'; obtain ⟨zk0, zk1, zz0, zz1, zy0, zy1, zv0, zv1⟩ := HRD.out w' hw'; go_simp; first | with_reducible exact ⟨hw', rfl⟩ | with_reducible exact ⟨hw', congrArg Value.bool gx1⟩ | with_reducible exact ⟨hw', congrArg Value.bool gx2⟩ | with_reducible exact ⟨hw', congrArg Value.bool gx3⟩ | with_reducible exact rfl)))
        simp only [Act.put, List.setIfInBounds_toArray, List.set_cons_succ, List.set_cons_zero]
      intro listed w26 _ hb
      replace HB := Lib.hid (HB.out.trans (hb.mono HB.out.size))
      replace HNc := Lib.hid ((hb.block _ (Array.getElem?_eq_some_iff.1 HNc.out).1).trans HNc.out)
      replace HNq := Lib.hid ((hb.block _ (Array.getElem?_eq_some_iff.1 HNq.out).1).trans HNq.out)
      replace HNk := Lib.hid ((hb.block _ (Array.getElem?_eq_some_iff.1 HNk.out).1).trans HNk.out)
      replace HNz := Lib.hid ((hb.block _ (Array.getElem?_eq_some_iff.1 HNz.out).1).trans HNz.out)
      replace HNy := Lib.hid ((hb.block _ (Array.getElem?_eq_some_iff.1 HNy.out).1).trans HNy.out)
      replace HNv := Lib.hid ((hb.block _ (Array.getElem?_eq_some_iff.1 HNv.out).1).trans HNv.out)
      clear hb
      clear gx1 gx2 gx3
      clear HNz HNy HNv
      have zc0 := cellH HNc.out 0
      have zc1 := cellH HNc.out 1
      have zq0 := cellH HNq.out 0
      have zq1 := cellH HNq.out 1
      have zq2 := cellH HNq.out 2
      have zq3 := cellH HNq.out 3
      simp only [List.getElem?_toArray, List.getElem?_cons_zero, List.getElem?_cons_succ] at zc0 zc1 zq0 zq1 zq2 zq3
      go_wp2_with fail
      refine (H3.out _ HB.out).mono ?_
      rintro e w27 ⟨rfl, hb⟩
      clear zc0 zc1 zq0 zq1 zq2 zq3
      replace HB := Lib.hid (HB.out.trans (hb.mono HB.out.size))
      replace HNc := Lib.hid ((hb.block _ (Array.getElem?_eq_some_iff.1 HNc.out).1).trans HNc.out)
      replace HNq := Lib.hid ((hb.block _ (Array.getElem?_eq_some_iff.1 HNq.out).1).trans HNq.out)
      replace HNk := Lib.hid ((hb.block _ (Array.getElem?_eq_some_iff.1 HNk.out).1).trans HNk.out)
      clear hb
      have HOI : Hid (OwI w27 w27.heap.size (.slice none 0 0) (idL (ks.take 0) RA RB)) := Lib.hid ⟨rfl, .inl ⟨rfl, rfl⟩⟩
      have HWB := Lib.hid HB.out.size
      have HQ : Hid (BlC w27 w27) := Lib.hid (Below.refl _ _)
      go_wp2_with fail
      go_loopw [21, 22] (fun x i wr => ∃ (k : Nat) (o : Value), k ≤ ks.length ∧ x = o ∧ i = .int .i64 k ∧ Hid (OwI wr w27.heap.size o (idL (ks.take k) RA RB)) ∧ Hid (Below w.heap.size w wr) ∧ Hid (wr.heap[w.heap.size]? = some (.cells #[.slice a1 cs.length c1, .slice (some ⟨b, off, none⟩) ks.length c2] 25 (0, 0))) ∧ Hid (wr.heap[w.heap.size + 1]? = some (.cells #[.int .i64 rc, .int .i64 rt, .int .i64 rs, .int .i64 rl] 53 (0, 0))) ∧ Hid (wr.heap[bkk]? = some (.cells #[.int .i64 RF, .int .i64 RT] 55 (0, 0))) ∧ Hid (BlC w27 wr)) (fun _ i _ => ks.length - (intOf i).toNat)
      case atStart => exact ⟨0, _, Nat.zero_le _, rfl, rfl, HOI, HB, HNc, HNq, HNk, HQ⟩
      case round =>
        clear HB HNc HNq HNk HQ
        clear HOI
        obtain ⟨k, o, hk, hx5, rfl, HOI, HB, HNc, HNq, HNk, HQ⟩ := hrel
        have hx5 := hx5.symm
        subst hx5
        have hm := HO.out.m
        by_cases hkl : k < ks.length
        · obtain ⟨b', off', hbo, hb, hat⟩ := HC2.out k hkl
          cases hbo
          obtain ⟨e0, e1, e2, e3, e4, e5, e6⟩ := hat.keep HB.out hb
          have hki : (k : Int) < ks.length := by omega
          have hk0 : (0 : Int) ≤ k := by omega
          have HKL := Lib.hid hkl
          have HST := Lib.hid (idL_step (a := RA) (b := RB) hkl)
          have hln := idL_len ks RA RB k
          obtain ⟨X, hX⟩ : ∃ X, (ks.getD k .nil).id = X := ⟨_, rfl⟩
          rw [hX] at e0 HST
          obtain ⟨FL, hFL⟩ : ∃ q, idL (ks.take k) RA RB = q := ⟨_, rfl⟩
          rw [hFL] at HST HOI hln
          clear hX hat hb hFL e1 e2 e3 e4 e5 e6
          have zc0 := cellH HNc.out 0
          have zc1 := cellH HNc.out 1
          simp only [List.getElem?_toArray, List.getElem?_cons_zero, List.getElem?_cons_succ] at zc0 zc1
          cases g1 : (X != RA)
          · have HN2 : Hid (idL (ks.take (k + 1)) RA RB = FL) := Lib.hid (by rw [HST.out, g1]; rfl)
            go_wp2_with fail
            go_roundw
            case rel => exact ⟨k + 1, o, HKL.out, rfl, by go_num, Lib.hid (by rw [HN2.out]; exact HOI.out), HB, HNc, HNq, HNk, HQ⟩
            case measure => have := HKL.out; simp [intOf]; omega
          cases g2 : (X != RB)
          · have HN2 : Hid (idL (ks.take (k + 1)) RA RB = FL) := Lib.hid (by rw [HST.out, g1, g2]; rfl)
            go_wp2_with fail
            go_roundw
            case rel => exact ⟨k + 1, o, HKL.out, rfl, by go_num, Lib.hid (by rw [HN2.out]; exact HOI.out), HB, HNc, HNq, HNk, HQ⟩
            case measure => have := HKL.out; simp [intOf]; omega
          have HN2 : Hid (idL (ks.take (k + 1)) RA RB = FL ++ [X]) := Lib.hid (by rw [HST.out, g1, g2]; rfl)
          have h63 : FL.length + 1 ≤ maxLen := by unfold maxLen; omega
          have hby : (FL.length + 1) * 8 ≤ 140737488355328 := by omega
          have hbase : w27.heap.size ≤ wr.heap.size := Below.size HQ.out
          have hO4 := HOI.out
          unfold OwI at hO4
          go_wp2_with (at_builtin; refine wpList_append_own _ rfl _ _ 31 rfl w27.heap.size 3 i0 (.int .i64 0) 1 8 Try.underlying31 hi0 hz0 hz1 hz2 rfl (by decide) _ _ _ rfl (World.ownsRow.alloc hO4 _) ⟨wr.heap.size, 0, none⟩ 1 1 [.int .i64 X] rfl rfl (fun j u h => cell_one' _ _ _ j u h) (by simp [Value.oneCell']) h63 hby (by simp; omega) ?_; intro v' w5 hown' hgrow _)
          have HB5 : Hid (Below w.heap.size w w5) := Lib.hid ((HB.out.alloc HB.out.size _).grown hgrow (by have := HB.out.size; simp; omega) (fun j e => Nat.le_trans HWB.out (World.ownsRow.lt hO4 j e).1))
          have HQ5 : Hid (BlC w27 w5) := Lib.hid ((Below.alloc HQ.out (Below.size HQ.out) _).grown hgrow (by simp; omega) (fun j e => (World.ownsRow.lt hO4 j e).1))
          have HO5 : Hid (OwI w5 w27.heap.size v' (idL (ks.take (k + 1)) RA RB)) := Lib.hid (by
            rw [HN2.out]
            unfold OwI
            rw [List.length_append, List.map_append]; exact hown')
          have HNc5 := Lib.hid ((hgrow.block (w.heap.size) (by have := (Array.getElem?_eq_some_iff.1 HNc.out).1; simp; omega) (own_neJ hO4 HNc.out (by decide))).trans ((((Below.refl wr.heap.size wr).alloc (Nat.le_refl _) _).block _ (Array.getElem?_eq_some_iff.1 HNc.out).1).trans HNc.out))
          have HNq5 := Lib.hid ((hgrow.block (w.heap.size + 1) (by have := (Array.getElem?_eq_some_iff.1 HNq.out).1; simp; omega) (own_neJ hO4 HNq.out (by decide))).trans ((((Below.refl wr.heap.size wr).alloc (Nat.le_refl _) _).block _ (Array.getElem?_eq_some_iff.1 HNq.out).1).trans HNq.out))
          have HNk5 := Lib.hid ((hgrow.block (bkk) (by have := (Array.getElem?_eq_some_iff.1 HNk.out).1; simp; omega) (own_neJ hO4 HNk.out (by decide))).trans ((((Below.refl wr.heap.size wr).alloc (Nat.le_refl _) _).block _ (Array.getElem?_eq_some_iff.1 HNk.out).1).trans HNk.out))
          clear hown' hgrow hO4
          go_roundw
          case rel => exact ⟨k + 1, v', HKL.out, rfl, by go_num, HO5, HB5, HNc5, HNq5, HNk5, HQ5⟩
          case measure => have := HKL.out; simp [intOf]; omega
        · obtain rfl : k = ks.length := by omega
          rw [List.take_length] at HOI
          have HWE := Lib.hid (woE_idL HC0.out RA RB)
          have hil : (idL ks RA RB).length ≤ 9223372036854775807 := by have := idL_len ks RA RB ks.length; rw [List.take_length] at this; omega
          have HIL := Lib.hid hil
          have HRI := Lib.hid (HOI.out.row)
          clear hil hkl hk hm HOI
          clear HQ
          have zc0 := cellH HNc.out 0
          have zc1 := cellH HNc.out 1
          simp only [List.getElem?_toArray, List.getElem?_cons_zero, List.getElem?_cons_succ] at zc0 zc1
          go_wp2_with fail
          refine (HWO.out _ _ _ HB.out HRI.out HIL.out).mono ?_
          rintro e w28 ⟨hb, _, hw⟩
          clear zc0 zc1
          replace HB := Lib.hid (HB.out.trans (hb.mono HB.out.size))
          replace HNc := Lib.hid ((hb.block _ (Array.getElem?_eq_some_iff.1 HNc.out).1).trans HNc.out)
          replace HNq := Lib.hid ((hb.block _ (Array.getElem?_eq_some_iff.1 HNq.out).1).trans HNq.out)
          replace HNk := Lib.hid ((hb.block _ (Array.getElem?_eq_some_iff.1 HNk.out).1).trans HNk.out)
          clear hb HRI
          obtain ⟨va, vb, rfl, hr1, hr2⟩ := hw HWE.out
          obtain ⟨pa, pb, rfl, _⟩ := hr1.form
          obtain ⟨qa, qb, rfl, _⟩ := hr2.form
          have hlk : (woC ks (idL ks RA RB)).length ≤ 60 := Nat.le_trans (List.length_filter_le _ _) HO.out.m
          have HLW1 := Lib.hid (fun w' h1 h2 => HLW.out (.slice pa cs.length pb) (.slice qa (woC ks (idL ks RA RB)).length qb) (woC ks (idL ks RA RB)) w' h1 h2 hlk HO.out.n)
          rw [wg_eq, HMS.out.1, HMS.out.2.1, HMS.out.2.2] at HLW1
          have HR1 := Lib.hid hr1
          have HR2 := Lib.hid hr2
          obtain ⟨KL2, hKL⟩ : ∃ q, woC ks (idL ks RA RB) = q := ⟨_, rfl⟩
          rw [hKL] at HLW1 HR2
          obtain ⟨KN2, hKN⟩ : ∃ q, KL2.length = q := ⟨_, rfl⟩
          rw [hKL, hKN]
          rw [hKN] at HLW1 HR2
          clear hw hr1 hr2 hlk hKL hKN HWE HMS HIL
          have hAlc : Below w28.heap.size w28 (w28.alloc (.cells #[.slice pa cs.length pb, .slice qa KN2 qb] 25)) := (Below.refl _ w28).alloc (Nat.le_refl _) _
          have HSso : Hid (w.heap.size ≤ w28.heap.size) := Lib.hid HB.out.size
          have HNso : Hid ((w28.alloc (.cells #[.slice pa cs.length pb, .slice qa KN2 qb] 25)).heap[w28.heap.size]? = some (.cells #[.slice pa cs.length pb, .slice qa KN2 qb] 25 (0, 0))) := Lib.hid (heap_alloc_new _ _)
          replace HB := Lib.hid (HB.out.trans (hAlc.mono HB.out.size))
          have HXc_so : Hid (w.heap.size ≠ w28.heap.size) := Lib.hid (Nat.ne_of_lt (Array.getElem?_eq_some_iff.1 HNc.out).1)
          have HXq_so : Hid (w.heap.size + 1 ≠ w28.heap.size) := Lib.hid (Nat.ne_of_lt (Array.getElem?_eq_some_iff.1 HNq.out).1)
          have HXk_so : Hid (bkk ≠ w28.heap.size) := Lib.hid (Nat.ne_of_lt (Array.getElem?_eq_some_iff.1 HNk.out).1)
          replace HNc := Lib.hid ((hAlc.block _ (Array.getElem?_eq_some_iff.1 HNc.out).1).trans HNc.out)
          replace HNq := Lib.hid ((hAlc.block _ (Array.getElem?_eq_some_iff.1 HNq.out).1).trans HNq.out)
          replace HNk := Lib.hid ((hAlc.block _ (Array.getElem?_eq_some_iff.1 HNk.out).1).trans HNk.out)
          replace HR1 := Lib.hid (HR1.out.keep hAlc)
          replace HR2 := Lib.hid (HR2.out.keep hAlc)
          obtain ⟨aso, haso⟩ : ∃ qq, w28.alloc (.cells #[.slice pa cs.length pb, .slice qa KN2 qb] 25) = qq := ⟨_, rfl⟩
          obtain ⟨bkso, hbso⟩ : ∃ qq, w28.heap.size = qq := ⟨_, rfl⟩
          rw [haso] at HB HNso HNc HNq HNk HR1 HR2
          rw [hbso] at HNso HSso HXc_so HXq_so HXk_so
          clear hAlc
          have zq0 := cellH HNq.out 0
          have zq1 := cellH HNq.out 1
          have zq2 := cellH HNq.out 2
          have zq3 := cellH HNq.out 3
          have zso0 := cellH HNso.out 0
          have zso1 := cellH HNso.out 1
          simp only [List.getElem?_toArray, List.getElem?_cons_zero, List.getElem?_cons_succ] at zq0 zq1 zq2 zq3 zso0 zso1
          go_wp2_with fail
          try clear haso hbso
          refine (HLW1.out _ HR1.out HR2.out).mono ?_
          rintro e w29 ⟨rfl, hb⟩
          clear zq0 zq1 zq2 zq3 zso0 zso1
          replace HB := Lib.hid (HB.out.trans (hb.mono HB.out.size))
          replace HNc := Lib.hid ((hb.block _ (Array.getElem?_eq_some_iff.1 HNc.out).1).trans HNc.out)
          replace HNq := Lib.hid ((hb.block _ (Array.getElem?_eq_some_iff.1 HNq.out).1).trans HNq.out)
          replace HNk := Lib.hid ((hb.block _ (Array.getElem?_eq_some_iff.1 HNk.out).1).trans HNk.out)
          replace HNso := Lib.hid ((hb.block _ (Array.getElem?_eq_some_iff.1 HNso.out).1).trans HNso.out)
          replace HR1 := Lib.hid (HR1.out.keep hb)
          replace HR2 := Lib.hid (HR2.out.keep hb)
          clear hb HR1 HR2 HLW1
          have hAlc : Below w29.heap.size w29 (w29.alloc (.cells #[.int .i64 RF, .int .i64 RT] 55)) := (Below.refl _ w29).alloc (Nat.le_refl _) _
          have HSu : Hid (w.heap.size ≤ w29.heap.size) := Lib.hid HB.out.size
          have HNu : Hid ((w29.alloc (.cells #[.int .i64 RF, .int .i64 RT] 55)).heap[w29.heap.size]? = some (.cells #[.int .i64 RF, .int .i64 RT] 55 (0, 0))) := Lib.hid (heap_alloc_new _ _)
          replace HB := Lib.hid (HB.out.trans (hAlc.mono HB.out.size))
          have HXc_u : Hid (w.heap.size ≠ w29.heap.size) := Lib.hid (Nat.ne_of_lt (Array.getElem?_eq_some_iff.1 HNc.out).1)
          have HXq_u : Hid (w.heap.size + 1 ≠ w29.heap.size) := Lib.hid (Nat.ne_of_lt (Array.getElem?_eq_some_iff.1 HNq.out).1)
          have HXk_u : Hid (bkk ≠ w29.heap.size) := Lib.hid (Nat.ne_of_lt (Array.getElem?_eq_some_iff.1 HNk.out).1)
          have HXso_u : Hid (bkso ≠ w29.heap.size) := Lib.hid (Nat.ne_of_lt (Array.getElem?_eq_some_iff.1 HNso.out).1)
          replace HNc := Lib.hid ((hAlc.block _ (Array.getElem?_eq_some_iff.1 HNc.out).1).trans HNc.out)
          replace HNq := Lib.hid ((hAlc.block _ (Array.getElem?_eq_some_iff.1 HNq.out).1).trans HNq.out)
          replace HNk := Lib.hid ((hAlc.block _ (Array.getElem?_eq_some_iff.1 HNk.out).1).trans HNk.out)
          replace HNso := Lib.hid ((hAlc.block _ (Array.getElem?_eq_some_iff.1 HNso.out).1).trans HNso.out)
          obtain ⟨au, hau⟩ : ∃ qq, w29.alloc (.cells #[.int .i64 RF, .int .i64 RT] 55) = qq := ⟨_, rfl⟩
          obtain ⟨bku, hbu⟩ : ∃ qq, w29.heap.size = qq := ⟨_, rfl⟩
          rw [hau] at HB HNu HNc HNq HNk HNso
          rw [hbu] at HNu HSu HXc_u HXq_u HXk_u HXso_u
          clear hAlc
          have zk0 := cellH HNk.out 0
          have zk1 := cellH HNk.out 1
          have zu0 := cellH HNu.out 0
          have zu1 := cellH HNu.out 1
          simp only [List.getElem?_toArray, List.getElem?_cons_zero, List.getElem?_cons_succ] at zk0 zk1 zu0 zu1
          go_wp2_with fail
          try clear hau hbu
          refine (H5.out _).mono ?_
          rintro e w30 ⟨rfl, hb⟩
          clear zk0 zk1 zu0 zu1
          replace HB := Lib.hid (HB.out.trans (hb.mono HB.out.size))
          replace HNc := Lib.hid ((hb.block _ (Array.getElem?_eq_some_iff.1 HNc.out).1).trans HNc.out)
          replace HNq := Lib.hid ((hb.block _ (Array.getElem?_eq_some_iff.1 HNq.out).1).trans HNq.out)
          replace HNk := Lib.hid ((hb.block _ (Array.getElem?_eq_some_iff.1 HNk.out).1).trans HNk.out)
          replace HNso := Lib.hid ((hb.block _ (Array.getElem?_eq_some_iff.1 HNso.out).1).trans HNso.out)
          replace HNu := Lib.hid ((hb.block _ (Array.getElem?_eq_some_iff.1 HNu.out).1).trans HNu.out)
          clear hb
          have zk0 := cellH HNk.out 0
          have zk1 := cellH HNk.out 1
          have zu0 := cellH HNu.out 0
          have zu1 := cellH HNu.out 1
          simp only [List.getElem?_toArray, List.getElem?_cons_zero, List.getElem?_cons_succ] at zk0 zk1 zu0 zu1
          go_wp2_with fail
          go_ret
          exact ⟨rfl, HB.out⟩
    exact absurd (HRX.out.symm.trans (hm3 hx).1) (by decide)
end Go.Proofs.Ytebdboacmeafaaa
