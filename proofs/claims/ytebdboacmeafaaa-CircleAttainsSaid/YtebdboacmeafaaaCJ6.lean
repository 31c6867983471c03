/- The law CircleAttains where there are no zeros. -/
import Derived.Test.YtebdboacmeafaaaCJ5
set_option linter.unusedVariables false
set_option linter.unusedSimpArgs false
namespace Go.Proofs.Ytebdboacmeafaaa
open Go Go.RowKit

set_option maxRecDepth 100000 in
set_option maxHeartbeats 8000000 in
theorem attains_bad (v1 v2 : Value) (cs : List Ci) (ks : List Ck) (id lo hi at_ n : Int) (w : World) (hv1 : CiRow w v1 cs) (hv2 : CkRow w v2 ks) (hl1 : cs.length ≤ 9223372036854775807) (hl2 : ks.length ≤ 9223372036854775807) (hid : -9223372036854775808 ≤ id ∧ id ≤ 9223372036854775807) (hlo : -9223372036854775808 ≤ lo ∧ lo ≤ 9223372036854775807) (hhi : -9223372036854775808 ≤ hi ∧ hi ≤ 9223372036854775807) (hat : 0 ≤ at_ ∧ at_ ≤ 65535) (hnr : 0 ≤ n ∧ n ≤ 65535) (hb1 : fwB cs.length ks.length = true) (hq1 : 0 ≤ lo ∧ hi ≤ 1048576 ∧ lo ≤ hi ∧ hi - lo < 60) (he1 : ¬ snE cs ks id lo hi = 0) :
    Calls Try.prog 3 #[.agg #[v1, v2], .int .i64 id, .agg #[.int .i64 lo, .int .i64 hi], .int .u16 at_, .int .u16 n] w fun e w' => e = .returned (.bool true) ∧ Below w.heap.size w w' := by
  obtain ⟨a1, c1, rfl, _⟩ := hv1.form
  obtain ⟨a2, c2, rfl, _⟩ := hv2.form
  have HB1 := Lib.hid hb1
  have HQ1 := Lib.hid hq1
  have HE1 := Lib.hid he1
  have HAT := Lib.hid hat
  have HNR := Lib.hid hnr
  have HF := Lib.hid (fun w' => few_any a1 a2 cs.length c1 ks.length c2 w')
  have HLW := Lib.hid (fun w' (h : Below w.heap.size w w') => Lowest_any (.slice a1 cs.length c1) (.slice a2 ks.length c2) cs ks id lo hi w' (hv1.keep h) (hv2.keep h) hl1 hl2)
  have HHW := Lib.hid (fun w' (h : Below w.heap.size w w') => Highest_any (.slice a1 cs.length c1) (.slice a2 ks.length c2) cs ks id lo hi w' (hv1.keep h) (hv2.keep h) hl1 hl2)
  have HCL := Lib.hid (fun w' (h : Below w.heap.size w w') => Clashes_any (.slice a1 cs.length c1) (.slice a2 ks.length c2) cs ks w' (hv1.keep h) (hv2.keep h) hl1 hl2)
  have HFT := Lib.hid (fun zv zl w' (h : Below w.heap.size w w') (hz : INRow w' zv zl) (hc : P2Cap zv) (hn : zl.length ≤ 60) (hb : 0 ≤ lo ∧ lo ≤ 1048576) => Fits_any (.slice a1 cs.length c1) (.slice a2 ks.length c2) zv cs ks id lo zl w' (hv1.keep h) (hv2.keep h) hz hc hl1 hl2 (by omega) (by omega))
  have HZR := Lib.hid (fun t w' (h : Below w.heap.size w w') => Zero_any (.slice a1 cs.length c1) (.slice a2 ks.length c2) cs ks id t w' (hv1.keep h) (hv2.keep h) hl1 hl2)
  have H5 := Lib.hid (fun w' => sanity_any w')
  have HOK := Lib.hid (sn_ok (cs := cs) (ks := ks) (id := id) (lo := lo) (hi := hi))
  have HAF := Lib.hid (fun h z hz => at_fits (cs := cs) (ks := ks) (id := id) (lo := lo) (hi := hi) (z := z) h hz)
  have HAZ := Lib.hid (fun h z hz j => at_zero (cs := cs) (ks := ks) (id := id) (lo := lo) (hi := hi) (z := z) h hz (j := j))
  have HAE := Lib.hid (fun h z hz j => at_le (cs := cs) (ks := ks) (id := id) (lo := lo) (hi := hi) (z := z) h hz (j := j))
  have HAB := Lib.hid (fun h z hz j => at_bd (cs := cs) (ks := ks) (id := id) (lo := lo) (hi := hi) (z := z) h hz (j := j))
  have HAN := Lib.hid (fun h z hz k zl => at_no (cs := cs) (ks := ks) (id := id) (lo := lo) (hi := hi) (z := z) h hz (k := k) (zl := zl))
  have HAC := Lib.hid (at_clash (cs := cs) (ks := ks) (id := id) (lo := lo) (hi := hi))
  unfold EnOut at HLW HHW
  unfold ClOut at HCL
  obtain ⟨E, hE⟩ : ∃ q, snE cs ks id lo hi = q := ⟨_, rfl⟩
  obtain ⟨F, hF⟩ : ∃ q, ciF cs id = q := ⟨_, rfl⟩
  obtain ⟨CE, hCE⟩ : ∃ q, ccE cs ks = q := ⟨_, rfl⟩
  obtain ⟨PL, hPL⟩ : ∃ q, clK cs ks cs.length = q := ⟨_, rfl⟩
  simp only [hE, hF] at HLW HHW HOK HAF HAZ HAE HAN HAB HAC
  simp only [hCE, hPL] at HCL HOK HAC
  obtain ⟨B0, hB0⟩ : ∃ B, fwB cs.length ks.length = B := ⟨_, rfl⟩
  rw [hB0] at HF HB1
  rw [hE] at HE1
  obtain ⟨i0, hi0, hz0, hz1, hz2⟩ := info_parts info_in1
  clear hv1 hv2 hl1 hl2 hE hF hCE hPL hB0 hat hnr hb1 hq1 he1
  obtain ⟨x0, x1, xlt, xb⟩ := two_cells w #[.slice a1 cs.length c1, .slice a2 ks.length c2] #[.int .i64 lo, .int .i64 hi] 25 27 (Below.refl _ _)
  have HNc : Hid (((w.alloc (.cells #[.slice a1 cs.length c1, .slice a2 ks.length c2] 25)).alloc (.cells #[.int .i64 lo, .int .i64 hi] 27)).heap[w.heap.size]? = some (.cells #[.slice a1 cs.length c1, .slice a2 ks.length c2] 25 (0, 0))) := Lib.hid x0
  have HNt : Hid (((w.alloc (.cells #[.slice a1 cs.length c1, .slice a2 ks.length c2] 25)).alloc (.cells #[.int .i64 lo, .int .i64 hi] 27)).heap[w.heap.size + 1]? = some (.cells #[.int .i64 lo, .int .i64 hi] 27 (0, 0))) := Lib.hid x1
  have HB : Hid (Below w.heap.size w ((w.alloc (.cells #[.slice a1 cs.length c1, .slice a2 ks.length c2] 25)).alloc (.cells #[.int .i64 lo, .int .i64 hi] 27))) := Lib.hid xb
  obtain ⟨Z, hZ⟩ : ∃ Z, ((w.alloc (.cells #[.slice a1 cs.length c1, .slice a2 ks.length c2] 25)).alloc (.cells #[.int .i64 lo, .int .i64 hi] 27)) = Z := ⟨_, rfl⟩
  rw [hZ] at HB HNc HNt
  have HZ := Lib.hid hZ
  clear hZ xlt xb x0 x1
  go_enter Try.func3, Try.ntmps3
  go_wp2_with fail
  rw [HZ.out]
  refine (HF.out _).mono ?_
  rintro e w1 ⟨rfl, hb⟩
  replace HB := Lib.hid (HB.out.trans (hb.mono HB.out.size))
  replace HNc := Lib.hid ((hb.block _ (Array.getElem?_eq_some_iff.1 HNc.out).1).trans HNc.out)
  replace HNt := Lib.hid ((hb.block _ (Array.getElem?_eq_some_iff.1 HNt.out).1).trans HNt.out)
  clear hb
  obtain rfl := HB1.out
  have q0 : ¬ lo < 0 := by have := HQ1.out; omega
  have q1 : ¬ 1048576 < hi := by have := HQ1.out; omega
  have q2 : ¬ hi < lo := by have := HQ1.out; omega
  have gw0 : IntKind.i64.wrap (hi - lo) = hi - lo := IntWalk.i64_in _ (by omega)
  have q3 : ¬ 60 ≤ hi - lo := by have := HQ1.out; omega
  have HQB := Lib.hid (show 0 ≤ lo ∧ hi ≤ 1048576 ∧ lo ≤ hi ∧ hi - lo < 60 by omega)
  have zc0 := cellH HNc.out 0
  have zc1 := cellH HNc.out 1
  have zt0 := cellH HNt.out 0
  have zt1 := cellH HNt.out 1
  simp only [List.getElem?_toArray, List.getElem?_cons_zero, List.getElem?_cons_succ] at zc0 zc1 zt0 zt1
  go_wp2_with fail
  refine (HLW.out _ HB.out).mono ?_
  rintro e w2 ⟨hb, h1, h2⟩
  clear zc0 zc1 zt0 zt1
  clear q0 q1 q2 q3 gw0
  replace HB := Lib.hid (HB.out.trans (hb.mono HB.out.size))
  replace HNc := Lib.hid ((hb.block _ (Array.getElem?_eq_some_iff.1 HNc.out).1).trans HNc.out)
  replace HNt := Lib.hid ((hb.block _ (Array.getElem?_eq_some_iff.1 HNt.out).1).trans HNt.out)
  clear hb
  have h0 := HE1.out
  have he := h1 h0
  subst he
  have HX := Lib.hid h0
  have gE : (E != 0) = true := by simpa using h0
  clear h0 h1 h2
  have hAlc : Below w2.heap.size w2 (w2.alloc (.cells #[.int .i64 0, .int .i64 0, .slice none 0 0] 33)) := (Below.refl _ w2).alloc (Nat.le_refl _) _
  have HSlz : Hid (w.heap.size ≤ w2.heap.size) := Lib.hid HB.out.size
  have HNlz : Hid ((w2.alloc (.cells #[.int .i64 0, .int .i64 0, .slice none 0 0] 33)).heap[w2.heap.size]? = some (.cells #[.int .i64 0, .int .i64 0, .slice none 0 0] 33 (0, 0))) := Lib.hid (heap_alloc_new _ _)
  replace HB := Lib.hid (HB.out.trans (hAlc.mono HB.out.size))
  have HXc_lz : Hid (w.heap.size ≠ w2.heap.size) := Lib.hid (Nat.ne_of_lt (Array.getElem?_eq_some_iff.1 HNc.out).1)
  have HXt_lz : Hid (w.heap.size + 1 ≠ w2.heap.size) := Lib.hid (Nat.ne_of_lt (Array.getElem?_eq_some_iff.1 HNt.out).1)
  replace HNc := Lib.hid ((hAlc.block _ (Array.getElem?_eq_some_iff.1 HNc.out).1).trans HNc.out)
  replace HNt := Lib.hid ((hAlc.block _ (Array.getElem?_eq_some_iff.1 HNt.out).1).trans HNt.out)
  obtain ⟨alz, halz⟩ : ∃ qq, w2.alloc (.cells #[.int .i64 0, .int .i64 0, .slice none 0 0] 33) = qq := ⟨_, rfl⟩
  obtain ⟨bklz, hblz⟩ : ∃ qq, w2.heap.size = qq := ⟨_, rfl⟩
  rw [halz] at HB HNlz HNc HNt
  rw [hblz] at HNlz HSlz HXc_lz HXt_lz
  clear hAlc
  have zlz0 := cellH HNlz.out 0
  have zlz1 := cellH HNlz.out 1
  have zlz2 := cellH HNlz.out 2
  simp only [List.getElem?_toArray, List.getElem?_cons_zero, List.getElem?_cons_succ] at zlz0 zlz1 zlz2
  have zflz := freeH HNlz.out
  replace HNc := Lib.hid ((heap_other alz (bklz) 0 (.int .i64 0) _ HXc_lz.out).trans HNc.out)
  replace HNt := Lib.hid ((heap_other alz (bklz) 0 (.int .i64 0) _ HXt_lz.out).trans HNt.out)
  replace HNlz := Lib.hid (heap_same HNlz.out 0 (.int .i64 0))
  simp only [List.setIfInBounds_toArray, List.set_cons_zero, List.set_cons_succ] at HNlz
  replace HB := Lib.hid (HB.out.setCell (p := ⟨bklz, 0, none⟩) HSlz.out (.int .i64 0))
  obtain ⟨s3, hs3⟩ : ∃ X, alz.setCell ⟨bklz, 0, none⟩ (.int .i64 0) = X := ⟨_, rfl⟩
  rw [hs3] at HB HNc HNt HNlz
  have zlz0_3 := cellH HNlz.out 0
  have zlz1_3 := cellH HNlz.out 1
  have zlz2_3 := cellH HNlz.out 2
  simp only [List.getElem?_toArray, List.getElem?_cons_zero, List.getElem?_cons_succ] at zlz0_3 zlz1_3 zlz2_3
  have zflz_3 := freeH HNlz.out
  replace HNc := Lib.hid ((heap_other s3 (bklz) 1 (.int .i64 0) _ HXc_lz.out).trans HNc.out)
  replace HNt := Lib.hid ((heap_other s3 (bklz) 1 (.int .i64 0) _ HXt_lz.out).trans HNt.out)
  replace HNlz := Lib.hid (heap_same HNlz.out 1 (.int .i64 0))
  simp only [List.setIfInBounds_toArray, List.set_cons_zero, List.set_cons_succ] at HNlz
  replace HB := Lib.hid (HB.out.setCell (p := ⟨bklz, 1, none⟩) HSlz.out (.int .i64 0))
  obtain ⟨s4, hs4⟩ : ∃ X, s3.setCell ⟨bklz, 1, none⟩ (.int .i64 0) = X := ⟨_, rfl⟩
  rw [hs4] at HB HNc HNt HNlz
  have zlz0_4 := cellH HNlz.out 0
  have zlz1_4 := cellH HNlz.out 1
  have zlz2_4 := cellH HNlz.out 2
  simp only [List.getElem?_toArray, List.getElem?_cons_zero, List.getElem?_cons_succ] at zlz0_4 zlz1_4 zlz2_4
  have zflz_4 := freeH HNlz.out
  replace HNc := Lib.hid ((heap_other s4 (bklz) 2 (.slice none 0 0) _ HXc_lz.out).trans HNc.out)
  replace HNt := Lib.hid ((heap_other s4 (bklz) 2 (.slice none 0 0) _ HXt_lz.out).trans HNt.out)
  replace HNlz := Lib.hid (heap_same HNlz.out 2 (.slice none 0 0))
  simp only [List.setIfInBounds_toArray, List.set_cons_zero, List.set_cons_succ] at HNlz
  replace HB := Lib.hid (HB.out.setCell (p := ⟨bklz, 2, none⟩) HSlz.out (.slice none 0 0))
  obtain ⟨s5, hs5⟩ : ∃ X, s4.setCell ⟨bklz, 2, none⟩ (.slice none 0 0) = X := ⟨_, rfl⟩
  rw [hs5] at HB HNc HNt HNlz
  have zc0_5 := cellH HNc.out 0
  have zc1_5 := cellH HNc.out 1
  have zt0_5 := cellH HNt.out 0
  have zt1_5 := cellH HNt.out 1
  simp only [List.getElem?_toArray, List.getElem?_cons_zero, List.getElem?_cons_succ] at zc0_5 zc1_5 zt0_5 zt1_5
  go_wp2_with fail
  try clear halz hblz hs3 hs4 hs5
  refine (HHW.out _ HB.out).mono ?_
  rintro e w6 ⟨hb, h1, _⟩
  have he := h1 HX.out
  subst he
  clear h1
  clear zlz0 zlz1 zlz2 zflz zlz0_3 zlz1_3 zlz2_3 zflz_3 zlz0_4 zlz1_4 zlz2_4 zflz_4 zc0_5 zc1_5 zt0_5 zt1_5
  replace HB := Lib.hid (HB.out.trans (hb.mono HB.out.size))
  replace HNc := Lib.hid ((hb.block _ (Array.getElem?_eq_some_iff.1 HNc.out).1).trans HNc.out)
  replace HNt := Lib.hid ((hb.block _ (Array.getElem?_eq_some_iff.1 HNt.out).1).trans HNt.out)
  replace HNlz := Lib.hid ((hb.block _ (Array.getElem?_eq_some_iff.1 HNlz.out).1).trans HNlz.out)
  clear hb
  have hAlc : Below w6.heap.size w6 (w6.alloc (.cells #[.int .i64 0, .int .i64 0, .slice none 0 0] 33)) := (Below.refl _ w6).alloc (Nat.le_refl _) _
  have HShz : Hid (w.heap.size ≤ w6.heap.size) := Lib.hid HB.out.size
  have HNhz : Hid ((w6.alloc (.cells #[.int .i64 0, .int .i64 0, .slice none 0 0] 33)).heap[w6.heap.size]? = some (.cells #[.int .i64 0, .int .i64 0, .slice none 0 0] 33 (0, 0))) := Lib.hid (heap_alloc_new _ _)
  replace HB := Lib.hid (HB.out.trans (hAlc.mono HB.out.size))
  have HXc_hz : Hid (w.heap.size ≠ w6.heap.size) := Lib.hid (Nat.ne_of_lt (Array.getElem?_eq_some_iff.1 HNc.out).1)
  have HXt_hz : Hid (w.heap.size + 1 ≠ w6.heap.size) := Lib.hid (Nat.ne_of_lt (Array.getElem?_eq_some_iff.1 HNt.out).1)
  have HXlz_hz : Hid (bklz ≠ w6.heap.size) := Lib.hid (Nat.ne_of_lt (Array.getElem?_eq_some_iff.1 HNlz.out).1)
  replace HNc := Lib.hid ((hAlc.block _ (Array.getElem?_eq_some_iff.1 HNc.out).1).trans HNc.out)
  replace HNt := Lib.hid ((hAlc.block _ (Array.getElem?_eq_some_iff.1 HNt.out).1).trans HNt.out)
  replace HNlz := Lib.hid ((hAlc.block _ (Array.getElem?_eq_some_iff.1 HNlz.out).1).trans HNlz.out)
  obtain ⟨ahz, hahz⟩ : ∃ qq, w6.alloc (.cells #[.int .i64 0, .int .i64 0, .slice none 0 0] 33) = qq := ⟨_, rfl⟩
  obtain ⟨bkhz, hbhz⟩ : ∃ qq, w6.heap.size = qq := ⟨_, rfl⟩
  rw [hahz] at HB HNhz HNc HNt HNlz
  rw [hbhz] at HNhz HShz HXc_hz HXt_hz HXlz_hz
  clear hAlc
  have zhz0 := cellH HNhz.out 0
  have zhz1 := cellH HNhz.out 1
  have zhz2 := cellH HNhz.out 2
  simp only [List.getElem?_toArray, List.getElem?_cons_zero, List.getElem?_cons_succ] at zhz0 zhz1 zhz2
  have zfhz := freeH HNhz.out
  replace HNc := Lib.hid ((heap_other ahz (bkhz) 0 (.int .i64 0) _ HXc_hz.out).trans HNc.out)
  replace HNt := Lib.hid ((heap_other ahz (bkhz) 0 (.int .i64 0) _ HXt_hz.out).trans HNt.out)
  replace HNlz := Lib.hid ((heap_other ahz (bkhz) 0 (.int .i64 0) _ HXlz_hz.out).trans HNlz.out)
  replace HNhz := Lib.hid (heap_same HNhz.out 0 (.int .i64 0))
  simp only [List.setIfInBounds_toArray, List.set_cons_zero, List.set_cons_succ] at HNhz
  replace HB := Lib.hid (HB.out.setCell (p := ⟨bkhz, 0, none⟩) HShz.out (.int .i64 0))
  obtain ⟨s7, hs7⟩ : ∃ X, ahz.setCell ⟨bkhz, 0, none⟩ (.int .i64 0) = X := ⟨_, rfl⟩
  rw [hs7] at HB HNc HNt HNlz HNhz
  have zhz0_7 := cellH HNhz.out 0
  have zhz1_7 := cellH HNhz.out 1
  have zhz2_7 := cellH HNhz.out 2
  simp only [List.getElem?_toArray, List.getElem?_cons_zero, List.getElem?_cons_succ] at zhz0_7 zhz1_7 zhz2_7
  have zfhz_7 := freeH HNhz.out
  replace HNc := Lib.hid ((heap_other s7 (bkhz) 1 (.int .i64 0) _ HXc_hz.out).trans HNc.out)
  replace HNt := Lib.hid ((heap_other s7 (bkhz) 1 (.int .i64 0) _ HXt_hz.out).trans HNt.out)
  replace HNlz := Lib.hid ((heap_other s7 (bkhz) 1 (.int .i64 0) _ HXlz_hz.out).trans HNlz.out)
  replace HNhz := Lib.hid (heap_same HNhz.out 1 (.int .i64 0))
  simp only [List.setIfInBounds_toArray, List.set_cons_zero, List.set_cons_succ] at HNhz
  replace HB := Lib.hid (HB.out.setCell (p := ⟨bkhz, 1, none⟩) HShz.out (.int .i64 0))
  obtain ⟨s8, hs8⟩ : ∃ X, s7.setCell ⟨bkhz, 1, none⟩ (.int .i64 0) = X := ⟨_, rfl⟩
  rw [hs8] at HB HNc HNt HNlz HNhz
  have zhz0_8 := cellH HNhz.out 0
  have zhz1_8 := cellH HNhz.out 1
  have zhz2_8 := cellH HNhz.out 2
  simp only [List.getElem?_toArray, List.getElem?_cons_zero, List.getElem?_cons_succ] at zhz0_8 zhz1_8 zhz2_8
  have zfhz_8 := freeH HNhz.out
  replace HNc := Lib.hid ((heap_other s8 (bkhz) 2 (.slice none 0 0) _ HXc_hz.out).trans HNc.out)
  replace HNt := Lib.hid ((heap_other s8 (bkhz) 2 (.slice none 0 0) _ HXt_hz.out).trans HNt.out)
  replace HNlz := Lib.hid ((heap_other s8 (bkhz) 2 (.slice none 0 0) _ HXlz_hz.out).trans HNlz.out)
  replace HNhz := Lib.hid (heap_same HNhz.out 2 (.slice none 0 0))
  simp only [List.setIfInBounds_toArray, List.set_cons_zero, List.set_cons_succ] at HNhz
  replace HB := Lib.hid (HB.out.setCell (p := ⟨bkhz, 2, none⟩) HShz.out (.slice none 0 0))
  obtain ⟨s9, hs9⟩ : ∃ X, s8.setCell ⟨bkhz, 2, none⟩ (.slice none 0 0) = X := ⟨_, rfl⟩
  rw [hs9] at HB HNc HNt HNlz HNhz
  have gF : (E != E) = false := by simp
  have zc0_9 := cellH HNc.out 0
  have zc1_9 := cellH HNc.out 1
  simp only [List.getElem?_toArray, List.getElem?_cons_zero, List.getElem?_cons_succ] at zc0_9 zc1_9
  go_wp2_with fail
  try clear hahz hbhz hs7 hs8 hs9
  refine (HCL.out _ HB.out).mono ?_
  rintro e w10 ⟨hb, k1, k2⟩
  clear zhz0 zhz1 zhz2 zfhz zhz0_7 zhz1_7 zhz2_7 zfhz_7 zhz0_8 zhz1_8 zhz2_8 zfhz_8 zc0_9 zc1_9
  replace HB := Lib.hid (HB.out.trans (hb.mono HB.out.size))
  replace HNc := Lib.hid ((hb.block _ (Array.getElem?_eq_some_iff.1 HNc.out).1).trans HNc.out)
  replace HNt := Lib.hid ((hb.block _ (Array.getElem?_eq_some_iff.1 HNt.out).1).trans HNt.out)
  replace HNlz := Lib.hid ((hb.block _ (Array.getElem?_eq_some_iff.1 HNlz.out).1).trans HNlz.out)
  replace HNhz := Lib.hid ((hb.block _ (Array.getElem?_eq_some_iff.1 HNhz.out).1).trans HNhz.out)
  clear hb
  by_cases h9 : E = 9
  case pos =>
    subst h9
    obtain ⟨hce, hpl⟩ := HAC.out (by first | rfl | trivial)
    subst hce
    obtain ⟨cv, rfl, hcp⟩ := k2 (by first | rfl | trivial)
    obtain ⟨pa, pc, rfl, _⟩ := hcp.form
    have gl : (0 : Int) < (PL.length : Int) := by omega
    have gl2 : decide ((0 : Int) < (PL.length : Int)) = true := decide_eq_true gl
    clear hcp k1 k2
    have zc0 := cellH HNc.out 0
    have zc1 := cellH HNc.out 1
    simp only [List.getElem?_toArray, List.getElem?_cons_zero, List.getElem?_cons_succ] at zc0 zc1
    go_wp2_with fail
    refine (H5.out _).mono ?_
    rintro e w11 ⟨rfl, hb⟩
    clear zc0 zc1
    replace HB := Lib.hid (HB.out.trans (hb.mono HB.out.size))
    replace HNc := Lib.hid ((hb.block _ (Array.getElem?_eq_some_iff.1 HNc.out).1).trans HNc.out)
    replace HNt := Lib.hid ((hb.block _ (Array.getElem?_eq_some_iff.1 HNt.out).1).trans HNt.out)
    replace HNlz := Lib.hid ((hb.block _ (Array.getElem?_eq_some_iff.1 HNlz.out).1).trans HNlz.out)
    replace HNhz := Lib.hid ((hb.block _ (Array.getElem?_eq_some_iff.1 HNhz.out).1).trans HNhz.out)
    clear hb
    go_wp2_with fail
    go_ret
    exact ⟨rfl, HB.out⟩
  have g9 : (E != 9) = true := by simpa using h9
  clear h9
  by_cases hce : CE = 0
  case pos =>
    subst hce
    obtain ⟨cv, rfl, hcp⟩ := k2 (by first | rfl | trivial)
    obtain ⟨pa, pc, rfl, _⟩ := hcp.form
    clear hcp k1 k2
    have zc0 := cellH HNc.out 0
    have zc1 := cellH HNc.out 1
    simp only [List.getElem?_toArray, List.getElem?_cons_zero, List.getElem?_cons_succ] at zc0 zc1
    go_wp2_with fail
    refine (H5.out _).mono ?_
    rintro e w12 ⟨rfl, hb⟩
    clear zc0 zc1
    replace HB := Lib.hid (HB.out.trans (hb.mono HB.out.size))
    replace HNc := Lib.hid ((hb.block _ (Array.getElem?_eq_some_iff.1 HNc.out).1).trans HNc.out)
    replace HNt := Lib.hid ((hb.block _ (Array.getElem?_eq_some_iff.1 HNt.out).1).trans HNt.out)
    replace HNlz := Lib.hid ((hb.block _ (Array.getElem?_eq_some_iff.1 HNlz.out).1).trans HNlz.out)
    replace HNhz := Lib.hid ((hb.block _ (Array.getElem?_eq_some_iff.1 HNhz.out).1).trans HNhz.out)
    clear hb
    go_wp2_with fail
    go_ret
    exact ⟨rfl, HB.out⟩
  have he := k1 hce
  subst he
  clear k1 k2
  have zc0 := cellH HNc.out 0
  have zc1 := cellH HNc.out 1
  simp only [List.getElem?_toArray, List.getElem?_cons_zero, List.getElem?_cons_succ] at zc0 zc1
  go_wp2_with fail
  refine (H5.out _).mono ?_
  rintro e w13 ⟨rfl, hb⟩
  clear zc0 zc1
  replace HB := Lib.hid (HB.out.trans (hb.mono HB.out.size))
  replace HNc := Lib.hid ((hb.block _ (Array.getElem?_eq_some_iff.1 HNc.out).1).trans HNc.out)
  replace HNt := Lib.hid ((hb.block _ (Array.getElem?_eq_some_iff.1 HNt.out).1).trans HNt.out)
  replace HNlz := Lib.hid ((hb.block _ (Array.getElem?_eq_some_iff.1 HNlz.out).1).trans HNlz.out)
  replace HNhz := Lib.hid ((hb.block _ (Array.getElem?_eq_some_iff.1 HNhz.out).1).trans HNhz.out)
  clear hb
  go_wp2_with fail
  go_ret
  exact ⟨rfl, HB.out⟩
end Go.Proofs.Ytebdboacmeafaaa
