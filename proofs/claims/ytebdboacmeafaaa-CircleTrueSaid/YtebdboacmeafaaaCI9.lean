/- The law CircleTrue. -/
import Derived.Test.YtebdboacmeafaaaCI8
import Derived.Test.YtebdboacmeafaaaCF1
import Derived.Test.YtebdboacmeafaaaCKB
import Derived.Laws.StructEq
set_option linter.unusedVariables false
set_option linter.unusedSimpArgs false
namespace Go.Proofs.Ytebdboacmeafaaa
open Go Go.RowKit

/-- The worlds and frames in a region. -/
def TrInv (W1 : World) (wz bf b0 off0 nz zcp K : Nat) (zx zy pa pb sl ZK LO HI : Int) (SB : Bool) (u0 u1 u2 u3 u5 u6 u8 u10 u11 u12 u13 u14 u16 u18 u19 u20 u21 u22 u23 u24 u25 u26 u27 u28 u29 u30 u31 u32 u33 u34 u35 u36 u37 u38 u39 u40 u41 u42 u43 u44 u45 u46 u47 u48 u49 u50 u51 u52 u53 u54 u55 u56 u57 u58 u59 u60 u61 u62 u63 u64 u65 u66 u67 u68 u69 u70 u71 u72 u73 u74 u75 u76 u77 u78 u79 u80 u81 u82 u83 u84 u85 u86 u87 u88 u89 u90 u91 u92 u93 u94 u95 u96 u97 u98 u99 u100 u101 u102 u103 u104 u105 u106 u107 u108 u109 u110 u111 u112 u113 u114 u115 u116 u117 u118 u119 u120 u121 u122 u123 u124 u125 u126 u127 u128 u129 u130 u131 u132 u133 u134 u135 : Value) (listed : Array Bool) (a : Act) (w' : World) : Prop :=
  ∃ (l0 l1 l2 l3 l4 l5 l6 l7 l8 l9 l10 l11 l12 l13 l14 : Bool) (A : Nat), listed = #[l0, l1, l2, l3, l4, l5, l6, l7, l8, l9, l10, l11, l12, l13, l14] ∧ a = { tmps := #[u0, u1, u2, u3, .int .i64 sl, u5, u6, .pointer (some ⟨wz + 1, 0, none⟩), u8, .pointer (some ⟨wz + 1 + 1, 0, none⟩), u10, u11, u12, u13, u14, .pointer (some ⟨bf, 0, none⟩), u16, .int .i64 (K : Nat), pkIf l12 (.pointer (some ⟨A, 0, none⟩)) (u18), pkIf l14 (.bool SB) (u19), u20, u21, u22, u23, u24, u25, u26, u27, u28, u29, u30, u31, u32, u33, u34, u35, u36, u37, u38, u39, u40, u41, u42, u43, u44, u45, u46, u47, u48, u49, u50, u51, u52, u53, u54, u55, u56, u57, u58, u59, u60, u61, u62, u63, u64, u65, u66, u67, u68, u69, u70, u71, u72, u73, u74, pkIf l9 (.tuple #[.agg #[.int .i64 LO, .int .i64 HI], .bool SB]) (u75), pkIf l0 (.agg #[.int .i64 zx, .int .i64 zy]) (u76), pkIf l1 (.agg #[.int .i64 pa, .int .i64 pb]) (u77), pkIf l2 (.pointer (some ⟨wz + 1, 2, none⟩)) (u78), pkIf l3 (.slice (some ⟨b0, off0, none⟩) nz zcp) (u79), pkIf l4 (.int .i64 (K : Nat)) (u80), pkIf l5 (.pointer (some ⟨b0, off0 + K, none⟩)) (u81), pkIf l6 (.int .i64 ZK) (u82), pkIf l7 (.int .i64 sl) (u83), pkIf l8 (.tuple #[.agg #[.int .i64 LO, .int .i64 HI], .bool SB]) (u84), pkIf l10 (.agg #[.int .i64 LO, .int .i64 HI]) (u85), pkIf l11 (.bool SB) (u86), u87, u88, u89, u90, u91, u92, u93, u94, u95, u96, u97, u98, u99, u100, u101, u102, u103, u104, u105, u106, u107, u108, u109, u110, u111, u112, u113, u114, u115, u116, u117, u118, u119, u120, u121, u122, u123, u124, u125, u126, u127, u128, u129, u130, u131, u132, u133, u134, u135], defers := [] } ∧ Below W1.heap.size W1 w' ∧ (l12 = true → W1.heap.size ≤ A ∧ w'.heap[A]? = some (.cells (if l13 = true then #[.int .i64 LO, .int .i64 HI] else #[.int .i64 0, .int .i64 0]) 27 (0, 0))) ∧ (l13 = true → l12 = true)
/-- The worlds and frames in a region. -/
def TsInv (W1 : World) (wz K : Nat) (zc zt TK S RS sl : Int) (u0 u1 u2 u3 u5 u6 u8 u9 u10 u11 u12 u13 u14 u15 u16 u18 u19 u21 u22 u23 u24 u25 u26 u27 u28 u29 u30 u31 u32 u33 u34 u35 u36 u37 u38 u39 u40 u41 u42 u43 u44 u45 u46 u47 u48 u49 u50 u51 u52 u53 u54 u55 u56 u57 u58 u59 u60 u61 u62 u63 u64 u65 u66 u67 u68 u69 u70 u71 u72 u73 u74 u75 u76 u77 u78 u79 u80 u81 u82 u83 u84 u85 u86 u87 u88 u89 u90 u91 u92 u93 u94 u95 u96 u97 u98 u99 u100 u101 u102 u103 u104 u105 u106 u107 u108 u109 u110 u111 u112 u113 u114 u115 u116 u117 u118 u119 u120 u121 u122 u123 u124 u125 u126 u127 u128 u129 u130 u131 u132 u133 u134 u135 : Value) (listed : Array Bool) (a : Act) (w' : World) : Prop :=
  ∃ (l0 l1 l2 l3 l4 l5 l6 l7 l8 l9 l10 l11 : Bool) (A : Nat), listed = #[l0, l1, l2, l3, l4, l5, l6, l7, l8, l9, l10, l11] ∧ a = { tmps := #[u0, u1, u2, u3, .int .i64 sl, u5, u6, .pointer (some ⟨wz + 1, 0, none⟩), u8, u9, u10, u11, u12, u13, u14, u15, u16, .int .i64 (K : Nat), u18, u19, .int .i64 S, pkIf l10 (.pointer (some ⟨A, 0, none⟩)) (u21), u22, u23, u24, u25, u26, u27, u28, u29, u30, u31, u32, u33, u34, u35, u36, u37, u38, u39, u40, u41, u42, u43, u44, u45, u46, u47, u48, u49, u50, u51, u52, u53, u54, u55, u56, u57, u58, u59, u60, u61, u62, u63, u64, u65, u66, u67, u68, u69, u70, u71, u72, u73, u74, u75, u76, u77, u78, u79, u80, u81, u82, u83, u84, u85, u86, u87, u88, u89, u90, u91, u92, u93, u94, u95, u96, u97, u98, u99, u100, u101, u102, u103, u104, u105, pkIf l0 (.pointer (some ⟨wz + 1, 0, none⟩)) (u106), pkIf l1 (.int .i64 zc) (u107), pkIf l2 (.pointer (some ⟨wz + 1, 1, none⟩)) (u108), pkIf l3 (.int .i64 zt) (u109), pkIf l4 (.int .i64 (K : Nat)) (u110), pkIf l5 (.int .i64 TK) (u111), pkIf l6 (.int .i64 S) (u112), pkIf l7 (.int .i64 RS) (u113), pkIf l8 (.int .i64 sl) (u114), pkIf l9 (.agg #[.int .i64 zc, .int .i64 TK, .int .i64 RS, .int .i64 sl]) (u115), u116, u117, u118, u119, u120, u121, u122, u123, u124, u125, u126, u127, u128, u129, u130, u131, u132, u133, u134, u135], defers := [] } ∧ Below W1.heap.size W1 w' ∧ (l10 = true → W1.heap.size ≤ A ∧ w'.heap[A]? = some (.cells (if l11 = true then #[.int .i64 zc, .int .i64 TK, .int .i64 RS, .int .i64 sl] else #[.int .i64 0, .int .i64 0, .int .i64 0, .int .i64 0]) 53 (0, 0))) ∧ (l11 = true → l10 = true)
set_option maxRecDepth 100000 in
set_option maxHeartbeats 8000000 in
theorem true_card (v1 v2 : Value) (cs : List Ci) (ks : List Ck) (zc zt : Int) (zv : Value) (zl : List Int) (at_ a b sl n : Int) (w : World) (hv1 : CiRow w v1 cs) (hv2 : CkRow w v2 ks) (hl1 : cs.length ≤ 9223372036854775807) (hl2 : ks.length ≤ 9223372036854775807) (hz : INRow w zv zl) (hcap : P2Cap zv) (hzl : zl.length ≤ 9223372036854775807) (hzt : -9223372036854775808 ≤ zt ∧ zt ≤ 9223372036854775807) (hat : 0 ≤ at_ ∧ at_ ≤ 65535) (hsl : -9223372036854775808 ≤ sl ∧ sl ≤ 9223372036854775807) (hnr : 0 ≤ n ∧ n ≤ 65535) :
    Calls Try.prog 4 #[.agg #[v1, v2], .agg #[.int .i64 zc, .int .i64 zt, zv], .int .u16 at_, .agg #[.int .i64 a, .int .i64 b], .int .i64 sl, .int .u16 n] w fun e w' => e = .returned (.bool true) ∧ Below w.heap.size w w' := by
  obtain ⟨a1, c1, rfl, hc1⟩ := hv1.form
  obtain ⟨a2, c2, rfl, _⟩ := hv2.form
  obtain ⟨za, zcp, rfl, hcz⟩ := hz.form
  have HC1 := Lib.hid hc1
  have HCZ := Lib.hid hcz
  have HNR := Lib.hid hnr
  have HAT := Lib.hid hat
  have HZL := Lib.hid hzl
  have HLC := Lib.hid hl1
  have HF := Lib.hid (fun w' => few_any a1 a2 cs.length c1 ks.length c2 w')
  have H1 := Lib.hid (fun w' (h : Below w.heap.size w w') => Fits_any (.slice a1 cs.length c1) (.slice a2 ks.length c2) (.slice za zl.length zcp) cs ks zc zt zl w' (hv1.keep h) (hv2.keep h) (INRow.keep hz h) hcap hl1 hl2 hzl hzt)
  have H2 := Lib.hid (fun rt rs w' (h : Below w.heap.size w w') => Wedge_any (.slice a1 cs.length c1) (.slice a2 ks.length c2) cs ks zc rt rs sl w' (hv1.keep h) (hv2.keep h) hl1 hl2)
  have H5 := Lib.hid (fun w' => sanity_any w')
  have HFT := Lib.hid (fun (h : (ftR cs ks zc zt zl).2 = true) k (hk : k < zl.length) => ft_zr h hk)
  have HTL := Lib.hid (fun (h : (ftR cs ks zc zt zl).2 = true) k (hk : k < zl.length) z hz S => true_ls h hk (z := z) hz (a := a) (b := b) (sl := sl) (S := S))
  obtain ⟨FN, hFN⟩ : ∃ q, (ftR cs ks zc zt zl).1 = q := ⟨_, rfl⟩
  obtain ⟨FB, hFB⟩ : ∃ q, (ftR cs ks zc zt zl).2 = q := ⟨_, rfl⟩
  rw [hFN, hFB] at H1
  rw [hFB] at HFT HTL
  obtain ⟨B0, hB0⟩ : ∃ B, fwB cs.length ks.length = B := ⟨_, rfl⟩
  rw [hB0] at HF
  clear hc1 hcz hv1 hv2 hz hcap hl1 hl2 hzl hzt hFN hFB hB0 hnr hat
  obtain ⟨x0, x1, x2, xlt, xb⟩ := cells3 w #[.slice a1 cs.length c1, .slice a2 ks.length c2] #[.int .i64 zc, .int .i64 zt, .slice za zl.length zcp] #[.int .i64 a, .int .i64 b] 25 33 46 (Below.refl _ _)
  have HNc : Hid ((((w.alloc (.cells #[.slice a1 cs.length c1, .slice a2 ks.length c2] 25)).alloc (.cells #[.int .i64 zc, .int .i64 zt, .slice za zl.length zcp] 33)).alloc (.cells #[.int .i64 a, .int .i64 b] 46)).heap[w.heap.size]? = some (.cells #[.slice a1 cs.length c1, .slice a2 ks.length c2] 25 (0, 0))) := Lib.hid x0
  have HNz : Hid ((((w.alloc (.cells #[.slice a1 cs.length c1, .slice a2 ks.length c2] 25)).alloc (.cells #[.int .i64 zc, .int .i64 zt, .slice za zl.length zcp] 33)).alloc (.cells #[.int .i64 a, .int .i64 b] 46)).heap[w.heap.size + 1]? = some (.cells #[.int .i64 zc, .int .i64 zt, .slice za zl.length zcp] 33 (0, 0))) := Lib.hid x1
  have HNp : Hid ((((w.alloc (.cells #[.slice a1 cs.length c1, .slice a2 ks.length c2] 25)).alloc (.cells #[.int .i64 zc, .int .i64 zt, .slice za zl.length zcp] 33)).alloc (.cells #[.int .i64 a, .int .i64 b] 46)).heap[w.heap.size + 1 + 1]? = some (.cells #[.int .i64 a, .int .i64 b] 46 (0, 0))) := Lib.hid x2
  have HB : Hid (Below w.heap.size w (((w.alloc (.cells #[.slice a1 cs.length c1, .slice a2 ks.length c2] 25)).alloc (.cells #[.int .i64 zc, .int .i64 zt, .slice za zl.length zcp] 33)).alloc (.cells #[.int .i64 a, .int .i64 b] 46))) := Lib.hid xb
  obtain ⟨Z, hZ⟩ : ∃ Z, (((w.alloc (.cells #[.slice a1 cs.length c1, .slice a2 ks.length c2] 25)).alloc (.cells #[.int .i64 zc, .int .i64 zt, .slice za zl.length zcp] 33)).alloc (.cells #[.int .i64 a, .int .i64 b] 46)) = Z := ⟨_, rfl⟩
  rw [hZ] at HB HNc HNz HNp
  have HZ := Lib.hid hZ
  clear hZ xlt xb x0 x1 x2
  go_enter Try.func4, Try.ntmps4
  go_wp2_with fail
  rw [HZ.out]
  refine (HF.out _).mono ?_
  rintro e w1 ⟨rfl, hb⟩
  replace HB := Lib.hid (HB.out.trans (hb.mono HB.out.size))
  replace HNc := Lib.hid ((hb.block _ (Array.getElem?_eq_some_iff.1 HNc.out).1).trans HNc.out)
  replace HNz := Lib.hid ((hb.block _ (Array.getElem?_eq_some_iff.1 HNz.out).1).trans HNz.out)
  replace HNp := Lib.hid ((hb.block _ (Array.getElem?_eq_some_iff.1 HNp.out).1).trans HNp.out)
  clear hb
  cases B0
  · skip
    have zc0 := cellH HNc.out 0
    have zc1 := cellH HNc.out 1
    simp only [List.getElem?_toArray, List.getElem?_cons_zero, List.getElem?_cons_succ] at zc0 zc1
    go_wp2_with fail
    refine (H5.out _).mono ?_
    rintro e w2 ⟨rfl, hb⟩
    clear zc0 zc1
    replace HB := Lib.hid (HB.out.trans (hb.mono HB.out.size))
    replace HNc := Lib.hid ((hb.block _ (Array.getElem?_eq_some_iff.1 HNc.out).1).trans HNc.out)
    replace HNz := Lib.hid ((hb.block _ (Array.getElem?_eq_some_iff.1 HNz.out).1).trans HNz.out)
    replace HNp := Lib.hid ((hb.block _ (Array.getElem?_eq_some_iff.1 HNp.out).1).trans HNp.out)
    clear hb
    go_wp2_with fail
    go_ret
    exact ⟨rfl, HB.out⟩
  by_cases hz6 : 60 < zl.length
  case pos =>
    have gz : (60 : Int) < zl.length := by omega
    clear hz6
    have zc0 := cellH HNc.out 0
    have zc1 := cellH HNc.out 1
    have zz0 := cellH HNz.out 0
    have zz1 := cellH HNz.out 1
    have zz2 := cellH HNz.out 2
    simp only [List.getElem?_toArray, List.getElem?_cons_zero, List.getElem?_cons_succ] at zc0 zc1 zz0 zz1 zz2
    go_wp2_with fail
    refine (H5.out _).mono ?_
    rintro e w3 ⟨rfl, hb⟩
    clear zc0 zc1 zz0 zz1 zz2
    replace HB := Lib.hid (HB.out.trans (hb.mono HB.out.size))
    replace HNc := Lib.hid ((hb.block _ (Array.getElem?_eq_some_iff.1 HNc.out).1).trans HNc.out)
    replace HNz := Lib.hid ((hb.block _ (Array.getElem?_eq_some_iff.1 HNz.out).1).trans HNz.out)
    replace HNp := Lib.hid ((hb.block _ (Array.getElem?_eq_some_iff.1 HNp.out).1).trans HNp.out)
    clear hb
    go_wp2_with fail
    go_ret
    exact ⟨rfl, HB.out⟩
  have gz : ¬ (60 : Int) < zl.length := by omega
  by_cases hz0 : zl.length = 0
  case pos =>
    have gy : ((zl.length : Int) == 0) = true := by rw [hz0]; rfl
    clear hz0 hz6
    have zc0 := cellH HNc.out 0
    have zc1 := cellH HNc.out 1
    have zz0 := cellH HNz.out 0
    have zz1 := cellH HNz.out 1
    have zz2 := cellH HNz.out 2
    simp only [List.getElem?_toArray, List.getElem?_cons_zero, List.getElem?_cons_succ] at zc0 zc1 zz0 zz1 zz2
    go_wp2_with fail
    refine (H5.out _).mono ?_
    rintro e w4 ⟨rfl, hb⟩
    clear zc0 zc1 zz0 zz1 zz2
    replace HB := Lib.hid (HB.out.trans (hb.mono HB.out.size))
    replace HNc := Lib.hid ((hb.block _ (Array.getElem?_eq_some_iff.1 HNc.out).1).trans HNc.out)
    replace HNz := Lib.hid ((hb.block _ (Array.getElem?_eq_some_iff.1 HNz.out).1).trans HNz.out)
    replace HNp := Lib.hid ((hb.block _ (Array.getElem?_eq_some_iff.1 HNp.out).1).trans HNp.out)
    clear hb
    go_wp2_with fail
    go_ret
    exact ⟨rfl, HB.out⟩
  have gy : ((zl.length : Int) == 0) = false := by simpa using (by omega : ¬ (zl.length : Int) = 0)
  have HZN := Lib.hid (show 0 < zl.length ∧ zl.length ≤ 60 by omega)
  clear hz0 hz6
  have zc0 := cellH HNc.out 0
  have zc1 := cellH HNc.out 1
  have zz0 := cellH HNz.out 0
  have zz1 := cellH HNz.out 1
  have zz2 := cellH HNz.out 2
  simp only [List.getElem?_toArray, List.getElem?_cons_zero, List.getElem?_cons_succ] at zc0 zc1 zz0 zz1 zz2
  go_wp2_with fail
  refine (H1.out _ HB.out).mono ?_
  rintro e w5 ⟨rfl, hb⟩
  clear zc0 zc1 zz0 zz1 zz2
  replace HB := Lib.hid (HB.out.trans (hb.mono HB.out.size))
  replace HNc := Lib.hid ((hb.block _ (Array.getElem?_eq_some_iff.1 HNc.out).1).trans HNc.out)
  replace HNz := Lib.hid ((hb.block _ (Array.getElem?_eq_some_iff.1 HNz.out).1).trans HNz.out)
  replace HNp := Lib.hid ((hb.block _ (Array.getElem?_eq_some_iff.1 HNp.out).1).trans HNp.out)
  clear hb
  clear gz gy
  have hAlc : Below w5.heap.size w5 (w5.alloc (.cells #[.int .i64 0, .int .i64 0] 46)) := (Below.refl _ w5).alloc (Nat.le_refl _) _
  have HSfr : Hid (w.heap.size ≤ w5.heap.size) := Lib.hid HB.out.size
  have HNfr : Hid ((w5.alloc (.cells #[.int .i64 0, .int .i64 0] 46)).heap[w5.heap.size]? = some (.cells #[.int .i64 0, .int .i64 0] 46 (0, 0))) := Lib.hid (heap_alloc_new _ _)
  replace HB := Lib.hid (HB.out.trans (hAlc.mono HB.out.size))
  have HXc_fr : Hid (w.heap.size ≠ w5.heap.size) := Lib.hid (Nat.ne_of_lt (Array.getElem?_eq_some_iff.1 HNc.out).1)
  have HXz_fr : Hid (w.heap.size + 1 ≠ w5.heap.size) := Lib.hid (Nat.ne_of_lt (Array.getElem?_eq_some_iff.1 HNz.out).1)
  have HXp_fr : Hid (w.heap.size + 1 + 1 ≠ w5.heap.size) := Lib.hid (Nat.ne_of_lt (Array.getElem?_eq_some_iff.1 HNp.out).1)
  replace HNc := Lib.hid ((hAlc.block _ (Array.getElem?_eq_some_iff.1 HNc.out).1).trans HNc.out)
  replace HNz := Lib.hid ((hAlc.block _ (Array.getElem?_eq_some_iff.1 HNz.out).1).trans HNz.out)
  replace HNp := Lib.hid ((hAlc.block _ (Array.getElem?_eq_some_iff.1 HNp.out).1).trans HNp.out)
  obtain ⟨afr, hafr⟩ : ∃ qq, w5.alloc (.cells #[.int .i64 0, .int .i64 0] 46) = qq := ⟨_, rfl⟩
  obtain ⟨bkfr, hbfr⟩ : ∃ qq, w5.heap.size = qq := ⟨_, rfl⟩
  rw [hafr] at HB HNfr HNc HNz HNp
  rw [hbfr] at HNfr HSfr HXc_fr HXz_fr HXp_fr
  clear hAlc
  have zfr0 := cellH HNfr.out 0
  have zfr1 := cellH HNfr.out 1
  simp only [List.getElem?_toArray, List.getElem?_cons_zero, List.getElem?_cons_succ] at zfr0 zfr1
  have zffr := freeH HNfr.out
  replace HNc := Lib.hid ((heap_other afr (bkfr) 0 (.int .i64 (-1)) _ HXc_fr.out).trans HNc.out)
  replace HNz := Lib.hid ((heap_other afr (bkfr) 0 (.int .i64 (-1)) _ HXz_fr.out).trans HNz.out)
  replace HNp := Lib.hid ((heap_other afr (bkfr) 0 (.int .i64 (-1)) _ HXp_fr.out).trans HNp.out)
  replace HNfr := Lib.hid (heap_same HNfr.out 0 (.int .i64 (-1)))
  simp only [List.setIfInBounds_toArray, List.set_cons_zero, List.set_cons_succ] at HNfr
  replace HB := Lib.hid (HB.out.setCell (p := ⟨bkfr, 0, none⟩) HSfr.out (.int .i64 (-1)))
  obtain ⟨s6, hs6⟩ : ∃ X, afr.setCell ⟨bkfr, 0, none⟩ (.int .i64 (-1)) = X := ⟨_, rfl⟩
  rw [hs6] at HB HNc HNz HNp HNfr
  have zfr0_6 := cellH HNfr.out 0
  have zfr1_6 := cellH HNfr.out 1
  simp only [List.getElem?_toArray, List.getElem?_cons_zero, List.getElem?_cons_succ] at zfr0_6 zfr1_6
  have zffr_6 := freeH HNfr.out
  replace HNc := Lib.hid ((heap_other s6 (bkfr) 1 (.int .i64 0) _ HXc_fr.out).trans HNc.out)
  replace HNz := Lib.hid ((heap_other s6 (bkfr) 1 (.int .i64 0) _ HXz_fr.out).trans HNz.out)
  replace HNp := Lib.hid ((heap_other s6 (bkfr) 1 (.int .i64 0) _ HXp_fr.out).trans HNp.out)
  replace HNfr := Lib.hid (heap_same HNfr.out 1 (.int .i64 0))
  simp only [List.setIfInBounds_toArray, List.set_cons_zero, List.set_cons_succ] at HNfr
  replace HB := Lib.hid (HB.out.setCell (p := ⟨bkfr, 1, none⟩) HSfr.out (.int .i64 0))
  obtain ⟨s7, hs7⟩ : ∃ X, s6.setCell ⟨bkfr, 1, none⟩ (.int .i64 0) = X := ⟨_, rfl⟩
  rw [hs7] at HB HNc HNz HNp HNfr
  have zc0_7 := cellH HNc.out 0
  have zc1_7 := cellH HNc.out 1
  simp only [List.getElem?_toArray, List.getElem?_cons_zero, List.getElem?_cons_succ] at zc0_7 zc1_7
  go_wp2_with fail
  try clear hafr hbfr hs6 hs7
  clear zfr0 zfr1 zffr zfr0_6 zfr1_6 zffr_6 zc0_7 zc1_7
  have HN12 : Hid (∀ j, j < cs.length → True) := Lib.hid (fun _ _ => trivial)
  clear HN12
  go_loopw [16] (fun i wr => ∃ (k : Nat), k ≤ cs.length ∧ i = .int .i64 k ∧ Hid (Below w.heap.size w wr) ∧ Hid (wr.heap[w.heap.size]? = some (.cells #[.slice a1 cs.length c1, .slice a2 ks.length c2] 25 (0, 0))) ∧ Hid (wr.heap[w.heap.size + 1]? = some (.cells #[.int .i64 zc, .int .i64 zt, .slice za zl.length zcp] 33 (0, 0))) ∧ Hid (wr.heap[w.heap.size + 1 + 1]? = some (.cells #[.int .i64 a, .int .i64 b] 46 (0, 0))) ∧ Hid (wr.heap[bkfr]? = some (.cells #[.int .i64 (frP cs zc k).1, .int .i64 (frP cs zc k).2] 46 (0, 0)))) (fun i _ => cs.length - (intOf i).toNat)
  case atStart => exact ⟨0, Nat.zero_le _, rfl, HB, HNc, HNz, HNp, HNfr⟩
  case round =>
    clear HB HNc HNz HNp HNfr
    obtain ⟨k, hk, rfl, HB, HNc, HNz, HNp, HNfr⟩ := hrel
    have hn12 := HLC.out
    by_cases hkl : k < cs.length
    · obtain ⟨b1, off, rfl, hb, hat⟩ := HC1.out k hkl
      obtain ⟨e0, e1, e2, e3, e4, e5, e6, e7⟩ := hat.keep HB.out hb
      have hki : (k : Int) < cs.length := by omega
      have hk0 : (0 : Int) ≤ k := by omega
      have HKL := Lib.hid hkl
      have HST : Hid (frP cs zc (k + 1) = if ((cs.getD k .nil).id == zc) = true then ((cs.getD k .nil).x, (cs.getD k .nil).y) else frP cs zc k) := Lib.hid rfl
      obtain ⟨⟨fx, fy⟩, hP⟩ : ∃ P, frP cs zc k = P := ⟨_, rfl⟩
      rw [hP] at HNfr HST
      simp only at HNfr
      obtain ⟨X, hX⟩ : ∃ X, cs.getD k .nil = X := ⟨_, rfl⟩
      rw [hX] at e0 e1 e2 e3 e4 e5 e6 e7 HST
      obtain ⟨x0, x1, x2, x3, x4, x5, x6, x7⟩ := X
      simp only at e0 e1 e2 e3 e4 e5 e6 e7 HST
      clear hat hb hX hP e3 e4 e5 e6 e7
      have zc0 := cellH HNc.out 0
      have zc1 := cellH HNc.out 1
      have zz0 := cellH HNz.out 0
      have zz1 := cellH HNz.out 1
      have zz2 := cellH HNz.out 2
      simp only [List.getElem?_toArray, List.getElem?_cons_zero, List.getElem?_cons_succ] at zc0 zc1 zz0 zz1 zz2
      cases hE : (x0 == zc)
      · have HN2 : Hid (frP cs zc (k + 1) = (fx, fy)) := Lib.hid (by rw [HST.out, hE]; rfl)
        go_wp2_with fail
        go_quiet (fail)
        go_wp2_with fail
        go_roundw
        case rel => exact ⟨k + 1, HKL.out, by go_num, Lib.hid (belowN HB.out _), HNc, HNz, HNp, Lib.hid (by rw [HN2.out]; exact HNfr.out)⟩
        case measure => have := HKL.out; simp [intOf]; omega
      · have HN2 : Hid (frP cs zc (k + 1) = (x1, x2)) := Lib.hid (by rw [HST.out, hE]; rfl)
        have zfr0_9 := cellH HNfr.out 0
        have zfr1_9 := cellH HNfr.out 1
        simp only [List.getElem?_toArray, List.getElem?_cons_zero, List.getElem?_cons_succ] at zfr0_9 zfr1_9
        have zffr_9 := freeH HNfr.out
        replace HNc := Lib.hid ((heap_other wr (bkfr) 0 (.int .i64 x1) _ HXc_fr.out).trans HNc.out)
        replace HNz := Lib.hid ((heap_other wr (bkfr) 0 (.int .i64 x1) _ HXz_fr.out).trans HNz.out)
        replace HNp := Lib.hid ((heap_other wr (bkfr) 0 (.int .i64 x1) _ HXp_fr.out).trans HNp.out)
        replace HNfr := Lib.hid (heap_same HNfr.out 0 (.int .i64 x1))
        simp only [List.setIfInBounds_toArray, List.set_cons_zero, List.set_cons_succ] at HNfr
        replace HB := Lib.hid (HB.out.setCell (p := ⟨bkfr, 0, none⟩) HSfr.out (.int .i64 x1))
        obtain ⟨s8, hs8⟩ : ∃ X, wr.setCell ⟨bkfr, 0, none⟩ (.int .i64 x1) = X := ⟨_, rfl⟩
        rw [hs8] at HB HNc HNz HNp HNfr
        have zfr0_10 := cellH HNfr.out 0
        have zfr1_10 := cellH HNfr.out 1
        simp only [List.getElem?_toArray, List.getElem?_cons_zero, List.getElem?_cons_succ] at zfr0_10 zfr1_10
        have zffr_10 := freeH HNfr.out
        replace HNc := Lib.hid ((heap_other s8 (bkfr) 1 (.int .i64 x2) _ HXc_fr.out).trans HNc.out)
        replace HNz := Lib.hid ((heap_other s8 (bkfr) 1 (.int .i64 x2) _ HXz_fr.out).trans HNz.out)
        replace HNp := Lib.hid ((heap_other s8 (bkfr) 1 (.int .i64 x2) _ HXp_fr.out).trans HNp.out)
        replace HNfr := Lib.hid (heap_same HNfr.out 1 (.int .i64 x2))
        simp only [List.setIfInBounds_toArray, List.set_cons_zero, List.set_cons_succ] at HNfr
        replace HB := Lib.hid (HB.out.setCell (p := ⟨bkfr, 1, none⟩) HSfr.out (.int .i64 x2))
        obtain ⟨s9, hs9⟩ : ∃ X, s8.setCell ⟨bkfr, 1, none⟩ (.int .i64 x2) = X := ⟨_, rfl⟩
        rw [hs9] at HB HNc HNz HNp HNfr
        go_wp2_with fail
        go_quiet (fail)
        go_wp2_with fail
        go_roundw
        case rel => exact ⟨k + 1, HKL.out, by go_num, Lib.hid (belowN HB.out _), HNc, HNz, HNp, Lib.hid (by rw [HN2.out]; exact HNfr.out)⟩
        case measure => have := HKL.out; simp [intOf]; omega
    · obtain rfl : k = cs.length := by omega
      obtain ⟨⟨zx, zy⟩, hP⟩ : ∃ P, frP cs zc cs.length = P := ⟨_, rfl⟩
      rw [hP] at HNfr
      have HFP := Lib.hid hP
      simp only at HNfr
      have hkc : ¬ (cs.length : Int) < cs.length := by omega
      have hzn := HZN.out
      have hatt := HAT.out
      have hjm : (at_.toNat % zl.length) < zl.length := Nat.mod_lt _ (by omega)
      have hjt : (at_.tmod (zl.length : Int)) = ((at_.toNat % zl.length : Nat) : Int) := by
        rw [Int.tmod_eq_emod_of_nonneg hatt.1]
        have : at_ = (at_.toNat : Int) := by omega
        rw [this, Int.toNat_natCast]; omega
      obtain ⟨K, hK⟩ : ∃ K, at_.toNat % zl.length = K := ⟨_, rfl⟩
      rw [hK] at hjm hjt
      have ht1 : IntKind.i64.wrap at_ = at_ := IntWalk.i64_in _ (by omega)
      have hmne : ((zl.length : Int) == 0) = false := by simpa using (by omega : ¬ (zl.length : Int) = 0)
      have HKM := Lib.hid hjm
      clear hP hkl hk hn12 hK
      have zc0 := cellH HNc.out 0
      have zc1 := cellH HNc.out 1
      have zz0 := cellH HNz.out 0
      have zz1 := cellH HNz.out 1
      have zz2 := cellH HNz.out 2
      simp only [List.getElem?_toArray, List.getElem?_cons_zero, List.getElem?_cons_succ] at zc0 zc1 zz0 zz1 zz2
      go_wp2_with fail
      clear zc0 zc1 zz0 zz1 zz2
      clear hkc hzn hatt hjt ht1 hmne hjm
      obtain ⟨b0, off0, rfl, hb0, c0⟩ := HCZ.out K HKM.out
      have HCK := Lib.hid (show b0 < w.heap.size ∧ w.cell? ⟨b0, off0 + K, none⟩ = some (.int .i64 (zl.getD K 0)) from ⟨hb0, c0⟩)
      have HSH := Lib.hid (fun w' => Shows_any zx zy a b (zl.getD K 0) sl w')
      have HSL := Lib.hid (fun h => sh_le (x := zx) (y := zy) (a := a) (b := b) (n := zl.getD K 0) (sl := sl) h)
      replace HTL := Lib.hid (fun h => HTL.out h K HKM.out)
      replace HFT := Lib.hid (fun h => HFT.out h K HKM.out)
      obtain ⟨ZK, hZK⟩ : ∃ q, zl.getD K 0 = q := ⟨_, rfl⟩
      rw [hZK] at HCK HSH HSL HTL HFT
      obtain ⟨LO, hLO⟩ : ∃ q, shLo zx zy a b ZK sl = q := ⟨_, rfl⟩
      obtain ⟨HI, hHI⟩ : ∃ q, shHi zx zy a b ZK sl = q := ⟨_, rfl⟩
      obtain ⟨SB, hSB⟩ : ∃ q, shB zx zy a b ZK sl = q := ⟨_, rfl⟩
      rw [hLO, hHI, hSB] at HSH HSL
      have HLO := Lib.hid (show shLo zx zy a b ZK sl = LO ∧ shHi zx zy a b ZK sl = HI ∧ shB zx zy a b ZK sl = SB from ⟨hLO, hHI, hSB⟩)
      have hkm := HKM.out
      have hki : (K : Int) < zl.length := by omega
      have hk0 : (0 : Int) ≤ K := by omega
      clear hb0 c0 hZK hLO hHI hSB hkm
      have HRD : Hid (∀ W', Below wr.heap.size wr W' → W'.cell? ⟨w.heap.size + 1, 0, none⟩ = some (.int .i64 zc) ∧ W'.cell? ⟨w.heap.size + 1, 1, none⟩ = some (.int .i64 zt) ∧ W'.cell? ⟨w.heap.size + 1, 2, none⟩ = some (.slice (some ⟨b0, off0, none⟩) zl.length zcp) ∧ W'.cell? ⟨w.heap.size + 1 + 1, 0, none⟩ = some (.int .i64 a) ∧ W'.cell? ⟨w.heap.size + 1 + 1, 1, none⟩ = some (.int .i64 b) ∧ W'.cell? ⟨bkfr, 0, none⟩ = some (.int .i64 zx) ∧ W'.cell? ⟨bkfr, 1, none⟩ = some (.int .i64 zy) ∧ W'.cell? ⟨b0, off0 + K, none⟩ = some (.int .i64 ZK)) := Lib.hid (fun W' h => ⟨cellH ((h.block _ (Array.getElem?_eq_some_iff.1 HNz.out).1).trans HNz.out) 0, cellH ((h.block _ (Array.getElem?_eq_some_iff.1 HNz.out).1).trans HNz.out) 1, cellH ((h.block _ (Array.getElem?_eq_some_iff.1 HNz.out).1).trans HNz.out) 2, cellH ((h.block _ (Array.getElem?_eq_some_iff.1 HNp.out).1).trans HNp.out) 0, cellH ((h.block _ (Array.getElem?_eq_some_iff.1 HNp.out).1).trans HNp.out) 1, cellH ((h.block _ (Array.getElem?_eq_some_iff.1 HNfr.out).1).trans HNfr.out) 0, cellH ((h.block _ (Array.getElem?_eq_some_iff.1 HNfr.out).1).trans HNfr.out) 1, ((HB.out.trans (h.mono HB.out.size)).cell (p := ⟨b0, _, none⟩) HCK.out.1).trans HCK.out.2⟩)
      have HSW : Hid (∀ w', Below wr.heap.size wr w' → Calls Try.prog 14 #[.agg #[.int .i64 zx, .int .i64 zy], .agg #[.int .i64 a, .int .i64 b], .int .i64 ZK, .int .i64 sl] w' fun e w'' => e = .returned (.tuple #[.agg #[.int .i64 LO, .int .i64 HI], .bool SB]) ∧ Below w'.heap.size w' w'') := Lib.hid (fun w' _ => HSH.out w')
      refine wp_region_invn (by kernel_rfl) (TrInv wr w.heap.size bkfr b0 off0 zl.length zcp K zx zy a b sl ZK LO HI SB _ _ _ _ _ _ _ _ _ _ _ _ _ _ _ _ _ _ _ _ _ _ _ _ _ _ _ _ _ _ _ _ _ _ _ _ _ _ _ _ _ _ _ _ _ _ _ _ _ _ _ _ _ _ _ _ _ _ _ _ _ _ _ _ _ _ _ _ _ _ _ _ _ _ _ _ _ _ _ _ _ _ _ _ _ _ _ _ _ _ _ _ _ _ _ _ _ _ _ _ _ _ _ _ _ _ _ _ _ _ _ _ _ _ _ _ _ _ _ _ _ _ _ _ _ _ _ _ _ _ _) ⟨false, false, false, false, false, false, false, false, false, false, false, false, false, false, false, 0, rfl, rfl, (Below.refl _ _).drew, (fun h => by cases h), (fun h => by cases h)⟩ ?hend ?hstep
      case hstep =>
        rintro listed a w' i ⟨l0, l1, l2, l3, l4, l5, l6, l7, l8, l9, l10, l11, l12, l13, l14, A, rfl, rfl, hb, hA, kA⟩ hi
        obtain ⟨hf, o', ho', hp⟩ := mem_ready.1 hi
        have hin : i < 15 := (Array.getElem?_eq_some_iff.1 ho').1
        clear hi
        obtain ⟨zz0, zz1, zz2, zp0, zp1, zfr0, zfr1, e0⟩ := HRD.out w' hb
        match i, hin with
        | 0, _ =>
          obtain rfl : l0 = false := by simpa using hf
          clear hp ho'
          unfold wpOp
          simp only [pkIf_true]
          go_simp
          exact .inl ⟨true, l1, l2, l3, l4, l5, l6, l7, l8, l9, l10, l11, l12, l13, l14, A, rfl, rfl, hb, hA, kA⟩
        | 1, _ =>
          obtain rfl : l1 = false := by simpa using hf
          clear hp ho'
          unfold wpOp
          simp only [pkIf_true]
          go_simp
          exact .inl ⟨l0, true, l2, l3, l4, l5, l6, l7, l8, l9, l10, l11, l12, l13, l14, A, rfl, rfl, hb, hA, kA⟩
        | 2, _ =>
          obtain rfl : l2 = false := by simpa using hf
          clear hp ho'
          unfold wpOp
          simp only [pkIf_true]
          go_simp
          exact .inl ⟨l0, l1, true, l3, l4, l5, l6, l7, l8, l9, l10, l11, l12, l13, l14, A, rfl, rfl, hb, hA, kA⟩
        | 3, _ =>
          obtain rfl : l3 = false := by simpa using hf
          cases ho'
          obtain rfl : l2 = true := by simpa using hp ⟨2, .data⟩ (by simp) rfl
          clear hp
          unfold wpOp
          simp only [pkIf_true]
          go_simp
          exact .inl ⟨l0, l1, true, true, l4, l5, l6, l7, l8, l9, l10, l11, l12, l13, l14, A, rfl, rfl, hb, hA, kA⟩
        | 4, _ =>
          obtain rfl : l4 = false := by simpa using hf
          clear hp ho'
          unfold wpOp
          simp only [pkIf_true]
          go_simp
          exact .inl ⟨l0, l1, l2, l3, true, l5, l6, l7, l8, l9, l10, l11, l12, l13, l14, A, rfl, rfl, hb, hA, kA⟩
        | 5, _ =>
          obtain rfl : l5 = false := by simpa using hf
          cases ho'
          obtain rfl : l3 = true := by simpa using hp ⟨3, .data⟩ (by simp) rfl
          obtain rfl : l4 = true := by simpa using hp ⟨4, .data⟩ (by simp) rfl
          clear hp
          unfold wpOp
          simp only [pkIf_true]
          go_simp
          exact .inl ⟨l0, l1, l2, true, true, true, l6, l7, l8, l9, l10, l11, l12, l13, l14, A, rfl, rfl, hb, hA, kA⟩
        | 6, _ =>
          obtain rfl : l6 = false := by simpa using hf
          cases ho'
          obtain rfl : l5 = true := by simpa using hp ⟨5, .data⟩ (by simp) rfl
          clear hp
          unfold wpOp
          simp only [pkIf_true]
          go_simp
          exact .inl ⟨l0, l1, l2, l3, l4, true, true, l7, l8, l9, l10, l11, l12, l13, l14, A, rfl, rfl, hb, hA, kA⟩
        | 7, _ =>
          obtain rfl : l7 = false := by simpa using hf
          clear hp ho'
          unfold wpOp
          simp only [pkIf_true]
          go_simp
          exact .inl ⟨l0, l1, l2, l3, l4, l5, l6, true, l8, l9, l10, l11, l12, l13, l14, A, rfl, rfl, hb, hA, kA⟩
        | 8, _ =>
          obtain rfl : l8 = false := by simpa using hf
          cases ho'
          obtain rfl : l0 = true := by simpa using hp ⟨0, .data⟩ (by simp) rfl
          obtain rfl : l1 = true := by simpa using hp ⟨1, .data⟩ (by simp) rfl
          obtain rfl : l6 = true := by simpa using hp ⟨6, .data⟩ (by simp) rfl
          obtain rfl : l7 = true := by simpa using hp ⟨7, .data⟩ (by simp) rfl
          clear hp
          unfold wpOp
          simp only [pkIf_true]
          go_simp
          refine .inl ((HSW.out w' hb).mono ?_)
          rintro e w9 ⟨rfl, hb9⟩
          exact ⟨true, true, l2, l3, l4, l5, true, true, true, l9, l10, l11, l12, l13, l14, A, rfl, rfl, hb.trans (hb9.mono hb.size), (fun h => ⟨(hA h).1, (hb9.block _ (Array.getElem?_eq_some_iff.1 (hA h).2).1).trans (hA h).2⟩), kA⟩
        | 9, _ =>
          obtain rfl : l9 = false := by simpa using hf
          cases ho'
          obtain rfl : l8 = true := by simpa using hp ⟨8, .data⟩ (by simp) rfl
          clear hp
          unfold wpOp
          simp only [pkIf_true]
          go_simp
          exact .inl ⟨l0, l1, l2, l3, l4, l5, l6, l7, true, true, l10, l11, l12, l13, l14, A, rfl, rfl, hb, hA, kA⟩
        | 10, _ =>
          obtain rfl : l10 = false := by simpa using hf
          cases ho'
          obtain rfl : l9 = true := by simpa using hp ⟨9, .data⟩ (by simp) rfl
          clear hp
          unfold wpOp
          simp only [pkIf_true]
          go_simp
          exact .inl ⟨l0, l1, l2, l3, l4, l5, l6, l7, l8, true, true, l11, l12, l13, l14, A, rfl, rfl, hb, hA, kA⟩
        | 11, _ =>
          obtain rfl : l11 = false := by simpa using hf
          cases ho'
          obtain rfl : l9 = true := by simpa using hp ⟨9, .data⟩ (by simp) rfl
          clear hp
          unfold wpOp
          simp only [pkIf_true]
          go_simp
          exact .inl ⟨l0, l1, l2, l3, l4, l5, l6, l7, l8, true, l10, true, l12, l13, l14, A, rfl, rfl, hb, hA, kA⟩
        | 12, _ =>
          obtain rfl : l12 = false := by simpa using hf
          obtain rfl : l13 = false := by
            cases l13 with
            | false => rfl
            | true => exact absurd (kA rfl) (by decide)
          clear hp ho'
          unfold wpOp
          simp only [pkIf_true]
          go_simp
          exact .inl ⟨l0, l1, l2, l3, l4, l5, l6, l7, l8, l9, l10, l11, true, false, l14, w'.heap.size, rfl, rfl, hb.alloc hb.size _, (fun _ => ⟨hb.size, heap_alloc_new _ _⟩), (fun h => by cases h)⟩
        | 13, _ =>
          obtain rfl : l13 = false := by simpa using hf
          cases ho'
          obtain rfl : l12 = true := by simpa using hp ⟨12, .data⟩ (by simp) rfl
          obtain rfl : l10 = true := by simpa using hp ⟨10, .data⟩ (by simp) rfl
          clear hp
          obtain ⟨f1, f2⟩ := hA rfl
          simp only [Bool.false_eq_true, if_false] at f2
          have x0 := cellH f2 0
          have x1 := cellH f2 1
          have xf := freeH f2
          simp only [List.getElem?_toArray, List.getElem?_cons_zero, List.getElem?_cons_succ] at x0 x1
          have s0 := setS ⟨f2, hb⟩ f1 0 (.int .i64 LO)
          have s1 := setS s0 f1 1 (.int .i64 HI)
          simp only [List.setIfInBounds_toArray, List.set_cons_zero, List.set_cons_succ] at s1
          unfold wpOp
          simp only [pkIf_true]
          go_simp
          exact .inl ⟨l0, l1, l2, l3, l4, l5, l6, l7, l8, l9, true, l11, true, true, l14, A, rfl, rfl, s1.2, (fun _ => ⟨f1, s1.1⟩), (fun _ => rfl)⟩
        | 14, _ =>
          obtain rfl : l14 = false := by simpa using hf
          cases ho'
          obtain rfl : l11 = true := by simpa using hp ⟨11, .data⟩ (by simp) rfl
          clear hp
          unfold wpOp
          simp only [pkIf_true]
          go_simp
          exact .inl ⟨l0, l1, l2, l3, l4, l5, l6, l7, l8, l9, l10, true, l12, l13, true, A, rfl, rfl, hb, hA, kA⟩
      case hend =>
        rintro listed a w10 ⟨l0, l1, l2, l3, l4, l5, l6, l7, l8, l9, l10, l11, l12, l13, l14, A, rfl, rfl, hb, hA, kA⟩ hall
        have hal0 := ready_all (by kernel_rfl) rfl hall 15
        have hal : l0 = true ∧ l1 = true ∧ l2 = true ∧ l3 = true ∧ l4 = true ∧ l5 = true ∧ l6 = true ∧ l7 = true ∧ l8 = true ∧ l9 = true ∧ l10 = true ∧ l11 = true ∧ l12 = true ∧ l13 = true ∧ l14 = true := ⟨hal0 0 (by decide) (by simp), hal0 1 (by decide) (by simp), hal0 2 (by decide) (by simp), hal0 3 (by decide) (by simp), hal0 4 (by decide) (by simp), hal0 5 (by decide) (by simp), hal0 6 (by decide) (by simp), hal0 7 (by decide) (by simp), hal0 8 (by decide) (by simp), hal0 9 (by decide) (by simp), hal0 10 (by decide) (by simp), hal0 11 (by decide) (by simp), hal0 12 (by decide) (by simp), hal0 13 (by decide) (by simp), hal0 14 (by decide) (by simp)⟩
        obtain ⟨rfl, rfl, rfl, rfl, rfl, rfl, rfl, rfl, rfl, rfl, rfl, rfl, rfl, rfl, rfl⟩ := hal
        obtain ⟨gA, hA⟩ := hA rfl
        simp only [if_true] at hA
        clear kA
        simp only [pkIf_true, List.drop_succ_cons, List.drop_zero]
        clear hall hal0
        have HSA := Lib.hid (Nat.le_trans HB.out.size gA)
        have HA := Lib.hid hA
        clear hA gA
        replace HB := Lib.hid (HB.out.trans (hb.mono HB.out.size))
        replace HNc := Lib.hid ((hb.block _ (Array.getElem?_eq_some_iff.1 HNc.out).1).trans HNc.out)
        replace HNz := Lib.hid ((hb.block _ (Array.getElem?_eq_some_iff.1 HNz.out).1).trans HNz.out)
        replace HNp := Lib.hid ((hb.block _ (Array.getElem?_eq_some_iff.1 HNp.out).1).trans HNp.out)
        replace HNfr := Lib.hid ((hb.block _ (Array.getElem?_eq_some_iff.1 HNfr.out).1).trans HNfr.out)
        clear hb
        have HNsp := HA
        have HSsp := HSA
        clear HA HSA HRD HSW HSH hki hk0
        cases FB
        · skip
          have zc0 := cellH HNc.out 0
          have zc1 := cellH HNc.out 1
          simp only [List.getElem?_toArray, List.getElem?_cons_zero, List.getElem?_cons_succ] at zc0 zc1
          go_wp2_with fail
          refine (H5.out _).mono ?_
          rintro e w11 ⟨rfl, hb⟩
          clear zc0 zc1
          replace HB := Lib.hid (HB.out.trans (hb.mono HB.out.size))
          replace HNc := Lib.hid ((hb.block _ (Array.getElem?_eq_some_iff.1 HNc.out).1).trans HNc.out)
          replace HNz := Lib.hid ((hb.block _ (Array.getElem?_eq_some_iff.1 HNz.out).1).trans HNz.out)
          replace HNp := Lib.hid ((hb.block _ (Array.getElem?_eq_some_iff.1 HNp.out).1).trans HNp.out)
          replace HNfr := Lib.hid ((hb.block _ (Array.getElem?_eq_some_iff.1 HNfr.out).1).trans HNfr.out)
          replace HNsp := Lib.hid ((hb.block _ (Array.getElem?_eq_some_iff.1 HNsp.out).1).trans HNsp.out)
          clear hb
          go_wp2_with fail
          go_ret
          exact ⟨rfl, HB.out⟩
        cases SB
        · skip
          have zc0 := cellH HNc.out 0
          have zc1 := cellH HNc.out 1
          simp only [List.getElem?_toArray, List.getElem?_cons_zero, List.getElem?_cons_succ] at zc0 zc1
          go_wp2_with fail
          refine (H5.out _).mono ?_
          rintro e w12 ⟨rfl, hb⟩
          clear zc0 zc1
          replace HB := Lib.hid (HB.out.trans (hb.mono HB.out.size))
          replace HNc := Lib.hid ((hb.block _ (Array.getElem?_eq_some_iff.1 HNc.out).1).trans HNc.out)
          replace HNz := Lib.hid ((hb.block _ (Array.getElem?_eq_some_iff.1 HNz.out).1).trans HNz.out)
          replace HNp := Lib.hid ((hb.block _ (Array.getElem?_eq_some_iff.1 HNp.out).1).trans HNp.out)
          replace HNfr := Lib.hid ((hb.block _ (Array.getElem?_eq_some_iff.1 HNfr.out).1).trans HNfr.out)
          replace HNsp := Lib.hid ((hb.block _ (Array.getElem?_eq_some_iff.1 HNsp.out).1).trans HNsp.out)
          clear hb
          go_wp2_with fail
          go_ret
          exact ⟨rfl, HB.out⟩
        replace HTL := Lib.hid (HTL.out rfl)
        obtain ⟨z, hz, hcc, htk, hzr, _⟩ := HFT.out rfl
        have HO := Lib.hid (ccE_ok hcc)
        have hpe := HFP.out.symm.trans (frP_eq HO.out hz)
        have hpx : zx = z.x := congrArg Prod.fst hpe
        have hpy : zy = z.y := congrArg Prod.snd hpe
        have HT2 := Lib.hid (HTL.out z hz)
        rw [← hpx, ← hpy, HLO.out.1, HLO.out.2.1, HLO.out.2.2] at HT2
        replace HT2 := Lib.hid (fun S => HT2.out S rfl)
        have hsl := HSL.out rfl
        have hnn := HNR.out
        have HTB := Lib.hid htk
        obtain ⟨D, hD⟩ : ∃ D, HI - LO + 1 = D := ⟨_, rfl⟩
        have gd1 : IntKind.i64.wrap (HI - LO) = HI - LO := IntWalk.i64_in _ (by omega)
        have gd2 : IntKind.i64.wrap (HI - LO + 1) = D := by rw [hD]; exact IntWalk.i64_in _ (by omega)
        have hd0 : (D == 0) = false := by simpa using (by omega : ¬ D = 0)
        have hdp : 0 < D := by omega
        obtain ⟨Q, hQ⟩ : ∃ Q, n.tmod D = Q := ⟨_, rfl⟩
        have hq1 : 0 ≤ Q ∧ Q < D := by
          rw [← hQ, Int.tmod_eq_emod_of_nonneg hnn.1]
          exact ⟨Int.emod_nonneg _ (by omega), Int.emod_lt_of_pos _ hdp⟩
        obtain ⟨S, hS⟩ : ∃ S, LO + Q = S := ⟨_, rfl⟩
        have gd3 : IntKind.i64.wrap n = n := IntWalk.i64_in _ (by omega)
        have gd4 : IntKind.i64.wrap (LO + Q) = S := by rw [hS]; exact IntWalk.i64_in _ (by omega)
        have gd5 : IntKind.i64.wrap Q = Q := IntWalk.i64_in _ (by omega)
        have HT3 := Lib.hid (HT2.out S (by omega) (by omega))
        have HTU := Lib.hid (fun w' => pTurn_any S w')
        obtain ⟨RS, hRS⟩ : ∃ q, S % 3600 = q := ⟨_, rfl⟩
        rw [hRS] at HT3 HTU
        clear hz hcc htk hzr hpe hpx hpy hS hRS hnn HT2 HTL HFT
        have zsp0 := cellH HNsp.out 0
        have zsp1 := cellH HNsp.out 1
        simp only [List.getElem?_toArray, List.getElem?_cons_zero, List.getElem?_cons_succ] at zsp0 zsp1
        go_wp2_with fail
        go_quiet (fail)
        obtain ⟨wq, hwq⟩ : ∃ q, w10.drewN nq = q := ⟨_, rfl⟩
        have hbq : Below w10.heap.size w10 wq := by rw [← hwq]; exact belowN (Below.refl _ _) _
        rw [hwq]
        clear hwq
        clear zsp0 zsp1
        clear hD gd1 gd2 hd0 hdp hQ hq1 gd3 gd4 gd5 hsl
        replace HB := Lib.hid (HB.out.trans (hbq.mono HB.out.size))
        replace HNc := Lib.hid ((hbq.block _ (Array.getElem?_eq_some_iff.1 HNc.out).1).trans HNc.out)
        replace HNz := Lib.hid ((hbq.block _ (Array.getElem?_eq_some_iff.1 HNz.out).1).trans HNz.out)
        replace HNp := Lib.hid ((hbq.block _ (Array.getElem?_eq_some_iff.1 HNp.out).1).trans HNp.out)
        replace HNfr := Lib.hid ((hbq.block _ (Array.getElem?_eq_some_iff.1 HNfr.out).1).trans HNfr.out)
        replace HNsp := Lib.hid ((hbq.block _ (Array.getElem?_eq_some_iff.1 HNsp.out).1).trans HNsp.out)
        clear hbq
        have hkm := HKM.out
        have htb := HTB.out
        obtain ⟨TK, hTK⟩ : ∃ q, zt + (K : Int) = q := ⟨_, rfl⟩
        have gt1 : IntKind.i64.wrap (zt + (K : Int)) = TK := by rw [hTK]; exact IntWalk.i64_in _ (by omega)
        rw [hTK] at HT3
        have HWG := Lib.hid (fun w' h => H2.out TK RS w' h)
        rw [wg_eq] at HWG
        obtain ⟨RE, hRE⟩ : ∃ N, rwE cs ks zc TK RS sl = N := ⟨_, rfl⟩
        obtain ⟨RF, hRF⟩ : ∃ N, rwF cs ks zc TK RS sl = N := ⟨_, rfl⟩
        obtain ⟨RT, hRT⟩ : ∃ N, rwT cs ks zc TK RS sl = N := ⟨_, rfl⟩
        rw [hRE, hRF, hRT] at HWG HT3
        have HLS := Lib.hid (fun w' => Lies_any RF RT zx zy a b w')
        clear hTK hRE hRF hRT hkm htb
        go_wp2_with fail
        have HRD : Hid (∀ W', Below wq.heap.size wq W' → W'.cell? ⟨w.heap.size + 1, 0, none⟩ = some (.int .i64 zc) ∧ W'.cell? ⟨w.heap.size + 1, 1, none⟩ = some (.int .i64 zt) ∧ W'.cell? ⟨w.heap.size + 1, 2, none⟩ = some (.slice (some ⟨b0, off0, none⟩) zl.length zcp)) := Lib.hid (fun W' h => ⟨cellH ((h.block _ (Array.getElem?_eq_some_iff.1 HNz.out).1).trans HNz.out) 0, cellH ((h.block _ (Array.getElem?_eq_some_iff.1 HNz.out).1).trans HNz.out) 1, cellH ((h.block _ (Array.getElem?_eq_some_iff.1 HNz.out).1).trans HNz.out) 2⟩)
        have HTN : Hid (∀ w', Below wq.heap.size wq w' → Calls Try.prog 15 #[.int .i64 S] w' fun e w'' => e = .returned (.int .i64 RS) ∧ Below w'.heap.size w' w'') := Lib.hid (fun w' _ => (HTU.out w').mono fun e w'' ⟨he, hw⟩ => ⟨he, hw ▸ Below.refl _ _⟩)
        refine wp_region_invn (by kernel_rfl) (TsInv wq w.heap.size K zc zt TK S RS sl _ _ _ _ _ _ _ _ _ _ _ _ _ _ _ _ _ _ _ _ _ _ _ _ _ _ _ _ _ _ _ _ _ _ _ _ _ _ _ _ _ _ _ _ _ _ _ _ _ _ _ _ _ _ _ _ _ _ _ _ _ _ _ _ _ _ _ _ _ _ _ _ _ _ _ _ _ _ _ _ _ _ _ _ _ _ _ _ _ _ _ _ _ _ _ _ _ _ _ _ _ _ _ _ _ _ _ _ _ _ _ _ _ _ _ _ _ _ _ _ _ _ _ _ _ _ _ _ _ _ _ _) ⟨false, false, false, false, false, false, false, false, false, false, false, false, 0, rfl, rfl, (Below.refl _ _).drew, (fun h => by cases h), (fun h => by cases h)⟩ ?hend ?hstep
        case hstep =>
          rintro listed a w' i ⟨l0, l1, l2, l3, l4, l5, l6, l7, l8, l9, l10, l11, A, rfl, rfl, hb, hA, kA⟩ hi
          obtain ⟨hf, o', ho', hp⟩ := mem_ready.1 hi
          have hin : i < 12 := (Array.getElem?_eq_some_iff.1 ho').1
          clear hi
          obtain ⟨zz0, zz1, zz2⟩ := HRD.out w' hb
          match i, hin with
          | 0, _ =>
            obtain rfl : l0 = false := by simpa using hf
            clear hp ho'
            unfold wpOp
            simp only [pkIf_true]
            go_simp
            exact .inl ⟨true, l1, l2, l3, l4, l5, l6, l7, l8, l9, l10, l11, A, rfl, rfl, hb, hA, kA⟩
          | 1, _ =>
            obtain rfl : l1 = false := by simpa using hf
            cases ho'
            obtain rfl : l0 = true := by simpa using hp ⟨0, .data⟩ (by simp) rfl
            clear hp
            unfold wpOp
            simp only [pkIf_true]
            go_simp
            exact .inl ⟨true, true, l2, l3, l4, l5, l6, l7, l8, l9, l10, l11, A, rfl, rfl, hb, hA, kA⟩
          | 2, _ =>
            obtain rfl : l2 = false := by simpa using hf
            clear hp ho'
            unfold wpOp
            simp only [pkIf_true]
            go_simp
            exact .inl ⟨l0, l1, true, l3, l4, l5, l6, l7, l8, l9, l10, l11, A, rfl, rfl, hb, hA, kA⟩
          | 3, _ =>
            obtain rfl : l3 = false := by simpa using hf
            cases ho'
            obtain rfl : l2 = true := by simpa using hp ⟨2, .data⟩ (by simp) rfl
            clear hp
            unfold wpOp
            simp only [pkIf_true]
            go_simp
            exact .inl ⟨l0, l1, true, true, l4, l5, l6, l7, l8, l9, l10, l11, A, rfl, rfl, hb, hA, kA⟩
          | 4, _ =>
            obtain rfl : l4 = false := by simpa using hf
            clear hp ho'
            unfold wpOp
            simp only [pkIf_true]
            go_simp
            exact .inl ⟨l0, l1, l2, l3, true, l5, l6, l7, l8, l9, l10, l11, A, rfl, rfl, hb, hA, kA⟩
          | 5, _ =>
            obtain rfl : l5 = false := by simpa using hf
            cases ho'
            obtain rfl : l3 = true := by simpa using hp ⟨3, .data⟩ (by simp) rfl
            obtain rfl : l4 = true := by simpa using hp ⟨4, .data⟩ (by simp) rfl
            clear hp
            unfold wpOp
            simp only [pkIf_true]
            go_simp
            exact .inl ⟨l0, l1, l2, true, true, true, l6, l7, l8, l9, l10, l11, A, rfl, rfl, hb, hA, kA⟩
          | 6, _ =>
            obtain rfl : l6 = false := by simpa using hf
            clear hp ho'
            unfold wpOp
            simp only [pkIf_true]
            go_simp
            exact .inl ⟨l0, l1, l2, l3, l4, l5, true, l7, l8, l9, l10, l11, A, rfl, rfl, hb, hA, kA⟩
          | 7, _ =>
            obtain rfl : l7 = false := by simpa using hf
            cases ho'
            obtain rfl : l6 = true := by simpa using hp ⟨6, .data⟩ (by simp) rfl
            clear hp
            unfold wpOp
            simp only [pkIf_true]
            go_simp
            refine .inl ((HTN.out w' hb).mono ?_)
            rintro e w9 ⟨rfl, hb9⟩
            exact ⟨l0, l1, l2, l3, l4, l5, true, true, l8, l9, l10, l11, A, rfl, rfl, hb.trans (hb9.mono hb.size), (fun h => ⟨(hA h).1, (hb9.block _ (Array.getElem?_eq_some_iff.1 (hA h).2).1).trans (hA h).2⟩), kA⟩
          | 8, _ =>
            obtain rfl : l8 = false := by simpa using hf
            clear hp ho'
            unfold wpOp
            simp only [pkIf_true]
            go_simp
            exact .inl ⟨l0, l1, l2, l3, l4, l5, l6, l7, true, l9, l10, l11, A, rfl, rfl, hb, hA, kA⟩
          | 9, _ =>
            obtain rfl : l9 = false := by simpa using hf
            cases ho'
            obtain rfl : l1 = true := by simpa using hp ⟨1, .data⟩ (by simp) rfl
            obtain rfl : l5 = true := by simpa using hp ⟨5, .data⟩ (by simp) rfl
            obtain rfl : l7 = true := by simpa using hp ⟨7, .data⟩ (by simp) rfl
            obtain rfl : l8 = true := by simpa using hp ⟨8, .data⟩ (by simp) rfl
            clear hp
            unfold wpOp
            simp only [pkIf_true]
            go_simp
            exact .inl ⟨l0, true, l2, l3, l4, true, l6, true, true, true, l10, l11, A, rfl, rfl, hb, hA, kA⟩
          | 10, _ =>
            obtain rfl : l10 = false := by simpa using hf
            obtain rfl : l11 = false := by
              cases l11 with
              | false => rfl
              | true => exact absurd (kA rfl) (by decide)
            clear hp ho'
            unfold wpOp
            simp only [pkIf_true]
            go_simp
            exact .inl ⟨l0, l1, l2, l3, l4, l5, l6, l7, l8, l9, true, false, w'.heap.size, rfl, rfl, hb.alloc hb.size _, (fun _ => ⟨hb.size, heap_alloc_new _ _⟩), (fun h => by cases h)⟩
          | 11, _ =>
            obtain rfl : l11 = false := by simpa using hf
            cases ho'
            obtain rfl : l10 = true := by simpa using hp ⟨10, .data⟩ (by simp) rfl
            obtain rfl : l9 = true := by simpa using hp ⟨9, .data⟩ (by simp) rfl
            clear hp
            obtain ⟨f1, f2⟩ := hA rfl
            simp only [Bool.false_eq_true, if_false] at f2
            have x0 := cellH f2 0
            have x1 := cellH f2 1
            have x2 := cellH f2 2
            have x3 := cellH f2 3
            have xf := freeH f2
            simp only [List.getElem?_toArray, List.getElem?_cons_zero, List.getElem?_cons_succ] at x0 x1 x2 x3
            have s0 := setS ⟨f2, hb⟩ f1 0 (.int .i64 zc)
            have s1 := setS s0 f1 1 (.int .i64 TK)
            have s2 := setS s1 f1 2 (.int .i64 RS)
            have s3 := setS s2 f1 3 (.int .i64 sl)
            simp only [List.setIfInBounds_toArray, List.set_cons_zero, List.set_cons_succ] at s3
            unfold wpOp
            simp only [pkIf_true]
            go_simp
            exact .inl ⟨l0, l1, l2, l3, l4, l5, l6, l7, l8, true, true, true, A, rfl, rfl, s3.2, (fun _ => ⟨f1, s3.1⟩), (fun _ => rfl)⟩
        case hend =>
          rintro listed a w13 ⟨l0, l1, l2, l3, l4, l5, l6, l7, l8, l9, l10, l11, A, rfl, rfl, hb, hA, kA⟩ hall
          have hal0 := ready_all (by kernel_rfl) rfl hall 12
          have hal : l0 = true ∧ l1 = true ∧ l2 = true ∧ l3 = true ∧ l4 = true ∧ l5 = true ∧ l6 = true ∧ l7 = true ∧ l8 = true ∧ l9 = true ∧ l10 = true ∧ l11 = true := ⟨hal0 0 (by decide) (by simp), hal0 1 (by decide) (by simp), hal0 2 (by decide) (by simp), hal0 3 (by decide) (by simp), hal0 4 (by decide) (by simp), hal0 5 (by decide) (by simp), hal0 6 (by decide) (by simp), hal0 7 (by decide) (by simp), hal0 8 (by decide) (by simp), hal0 9 (by decide) (by simp), hal0 10 (by decide) (by simp), hal0 11 (by decide) (by simp)⟩
          obtain ⟨rfl, rfl, rfl, rfl, rfl, rfl, rfl, rfl, rfl, rfl, rfl, rfl⟩ := hal
          obtain ⟨gA, hA⟩ := hA rfl
          simp only [if_true] at hA
          clear kA
          simp only [pkIf_true, List.drop_succ_cons, List.drop_zero]
          clear hall hal0
          have HSA := Lib.hid (Nat.le_trans HB.out.size gA)
          have HA := Lib.hid hA
          clear hA gA
          replace HB := Lib.hid (HB.out.trans (hb.mono HB.out.size))
          replace HNc := Lib.hid ((hb.block _ (Array.getElem?_eq_some_iff.1 HNc.out).1).trans HNc.out)
          replace HNz := Lib.hid ((hb.block _ (Array.getElem?_eq_some_iff.1 HNz.out).1).trans HNz.out)
          replace HNp := Lib.hid ((hb.block _ (Array.getElem?_eq_some_iff.1 HNp.out).1).trans HNp.out)
          replace HNfr := Lib.hid ((hb.block _ (Array.getElem?_eq_some_iff.1 HNfr.out).1).trans HNfr.out)
          replace HNsp := Lib.hid ((hb.block _ (Array.getElem?_eq_some_iff.1 HNsp.out).1).trans HNsp.out)
          clear hb
          have HNrd := HA
          have HSrd := HSA
          clear HA HSA HRD HTN HTU gt1
          clear HNsp
          have zc0 := cellH HNc.out 0
          have zc1 := cellH HNc.out 1
          have zrd0 := cellH HNrd.out 0
          have zrd1 := cellH HNrd.out 1
          have zrd2 := cellH HNrd.out 2
          have zrd3 := cellH HNrd.out 3
          simp only [List.getElem?_toArray, List.getElem?_cons_zero, List.getElem?_cons_succ] at zc0 zc1 zrd0 zrd1 zrd2 zrd3
          go_wp2_with fail
          refine (HWG.out _ HB.out).mono ?_
          rintro e w14 ⟨rfl, hb⟩
          clear zc0 zc1 zrd0 zrd1 zrd2 zrd3
          replace HB := Lib.hid (HB.out.trans (hb.mono HB.out.size))
          replace HNc := Lib.hid ((hb.block _ (Array.getElem?_eq_some_iff.1 HNc.out).1).trans HNc.out)
          replace HNz := Lib.hid ((hb.block _ (Array.getElem?_eq_some_iff.1 HNz.out).1).trans HNz.out)
          replace HNp := Lib.hid ((hb.block _ (Array.getElem?_eq_some_iff.1 HNp.out).1).trans HNp.out)
          replace HNfr := Lib.hid ((hb.block _ (Array.getElem?_eq_some_iff.1 HNfr.out).1).trans HNfr.out)
          replace HNrd := Lib.hid ((hb.block _ (Array.getElem?_eq_some_iff.1 HNrd.out).1).trans HNrd.out)
          clear hb
          have hAlc : Below w14.heap.size w14 (w14.alloc (.cells #[.int .i64 RF, .int .i64 RT] 55)) := (Below.refl _ w14).alloc (Nat.le_refl _) _
          have HSwd : Hid (w.heap.size ≤ w14.heap.size) := Lib.hid HB.out.size
          have HNwd : Hid ((w14.alloc (.cells #[.int .i64 RF, .int .i64 RT] 55)).heap[w14.heap.size]? = some (.cells #[.int .i64 RF, .int .i64 RT] 55 (0, 0))) := Lib.hid (heap_alloc_new _ _)
          replace HB := Lib.hid (HB.out.trans (hAlc.mono HB.out.size))
          have HXc_wd : Hid (w.heap.size ≠ w14.heap.size) := Lib.hid (Nat.ne_of_lt (Array.getElem?_eq_some_iff.1 HNc.out).1)
          have HXz_wd : Hid (w.heap.size + 1 ≠ w14.heap.size) := Lib.hid (Nat.ne_of_lt (Array.getElem?_eq_some_iff.1 HNz.out).1)
          have HXp_wd : Hid (w.heap.size + 1 + 1 ≠ w14.heap.size) := Lib.hid (Nat.ne_of_lt (Array.getElem?_eq_some_iff.1 HNp.out).1)
          have HXfr_wd : Hid (bkfr ≠ w14.heap.size) := Lib.hid (Nat.ne_of_lt (Array.getElem?_eq_some_iff.1 HNfr.out).1)
          have HXrd_wd : Hid (A ≠ w14.heap.size) := Lib.hid (Nat.ne_of_lt (Array.getElem?_eq_some_iff.1 HNrd.out).1)
          replace HNc := Lib.hid ((hAlc.block _ (Array.getElem?_eq_some_iff.1 HNc.out).1).trans HNc.out)
          replace HNz := Lib.hid ((hAlc.block _ (Array.getElem?_eq_some_iff.1 HNz.out).1).trans HNz.out)
          replace HNp := Lib.hid ((hAlc.block _ (Array.getElem?_eq_some_iff.1 HNp.out).1).trans HNp.out)
          replace HNfr := Lib.hid ((hAlc.block _ (Array.getElem?_eq_some_iff.1 HNfr.out).1).trans HNfr.out)
          replace HNrd := Lib.hid ((hAlc.block _ (Array.getElem?_eq_some_iff.1 HNrd.out).1).trans HNrd.out)
          obtain ⟨awd, hawd⟩ : ∃ qq, w14.alloc (.cells #[.int .i64 RF, .int .i64 RT] 55) = qq := ⟨_, rfl⟩
          obtain ⟨bkwd, hbwd⟩ : ∃ qq, w14.heap.size = qq := ⟨_, rfl⟩
          rw [hawd] at HB HNwd HNc HNz HNp HNfr HNrd
          rw [hbwd] at HNwd HSwd HXc_wd HXz_wd HXp_wd HXfr_wd HXrd_wd
          clear hAlc
          obtain ⟨hor, hls⟩ := HT3.out
          rcases hor with rfl | rfl
          · have HLT := hls rfl
            rw [HLT] at HLS
            clear hls HLT HT3
            have zc0 := cellH HNc.out 0
            have zc1 := cellH HNc.out 1
            simp only [List.getElem?_toArray, List.getElem?_cons_zero, List.getElem?_cons_succ] at zc0 zc1
            go_wp2_with fail
            try clear hawd hbwd
            refine (H5.out _).mono ?_
            rintro e w15 ⟨rfl, hb⟩
            clear zc0 zc1
            replace HB := Lib.hid (HB.out.trans (hb.mono HB.out.size))
            replace HNc := Lib.hid ((hb.block _ (Array.getElem?_eq_some_iff.1 HNc.out).1).trans HNc.out)
            replace HNz := Lib.hid ((hb.block _ (Array.getElem?_eq_some_iff.1 HNz.out).1).trans HNz.out)
            replace HNp := Lib.hid ((hb.block _ (Array.getElem?_eq_some_iff.1 HNp.out).1).trans HNp.out)
            replace HNfr := Lib.hid ((hb.block _ (Array.getElem?_eq_some_iff.1 HNfr.out).1).trans HNfr.out)
            replace HNrd := Lib.hid ((hb.block _ (Array.getElem?_eq_some_iff.1 HNrd.out).1).trans HNrd.out)
            replace HNwd := Lib.hid ((hb.block _ (Array.getElem?_eq_some_iff.1 HNwd.out).1).trans HNwd.out)
            clear hb
            have zp0 := cellH HNp.out 0
            have zp1 := cellH HNp.out 1
            have zfr0 := cellH HNfr.out 0
            have zfr1 := cellH HNfr.out 1
            have zwd0 := cellH HNwd.out 0
            have zwd1 := cellH HNwd.out 1
            simp only [List.getElem?_toArray, List.getElem?_cons_zero, List.getElem?_cons_succ] at zp0 zp1 zfr0 zfr1 zwd0 zwd1
            go_wp2_with fail
            refine (HLS.out _).mono ?_
            rintro e w16 ⟨rfl, hb⟩
            clear zp0 zp1 zfr0 zfr1 zwd0 zwd1
            replace HB := Lib.hid (HB.out.trans (hb.mono HB.out.size))
            replace HNc := Lib.hid ((hb.block _ (Array.getElem?_eq_some_iff.1 HNc.out).1).trans HNc.out)
            replace HNz := Lib.hid ((hb.block _ (Array.getElem?_eq_some_iff.1 HNz.out).1).trans HNz.out)
            replace HNp := Lib.hid ((hb.block _ (Array.getElem?_eq_some_iff.1 HNp.out).1).trans HNp.out)
            replace HNfr := Lib.hid ((hb.block _ (Array.getElem?_eq_some_iff.1 HNfr.out).1).trans HNfr.out)
            replace HNrd := Lib.hid ((hb.block _ (Array.getElem?_eq_some_iff.1 HNrd.out).1).trans HNrd.out)
            replace HNwd := Lib.hid ((hb.block _ (Array.getElem?_eq_some_iff.1 HNwd.out).1).trans HNwd.out)
            clear hb
            go_wp2_with fail
            go_ret
            exact ⟨rfl, HB.out⟩
          · clear hls HT3
            have zc0 := cellH HNc.out 0
            have zc1 := cellH HNc.out 1
            simp only [List.getElem?_toArray, List.getElem?_cons_zero, List.getElem?_cons_succ] at zc0 zc1
            go_wp2_with fail
            try clear hawd hbwd
            refine (H5.out _).mono ?_
            rintro e w17 ⟨rfl, hb⟩
            clear zc0 zc1
            replace HB := Lib.hid (HB.out.trans (hb.mono HB.out.size))
            replace HNc := Lib.hid ((hb.block _ (Array.getElem?_eq_some_iff.1 HNc.out).1).trans HNc.out)
            replace HNz := Lib.hid ((hb.block _ (Array.getElem?_eq_some_iff.1 HNz.out).1).trans HNz.out)
            replace HNp := Lib.hid ((hb.block _ (Array.getElem?_eq_some_iff.1 HNp.out).1).trans HNp.out)
            replace HNfr := Lib.hid ((hb.block _ (Array.getElem?_eq_some_iff.1 HNfr.out).1).trans HNfr.out)
            replace HNrd := Lib.hid ((hb.block _ (Array.getElem?_eq_some_iff.1 HNrd.out).1).trans HNrd.out)
            replace HNwd := Lib.hid ((hb.block _ (Array.getElem?_eq_some_iff.1 HNwd.out).1).trans HNwd.out)
            clear hb
            go_wp2_with fail
            go_ret
            exact ⟨rfl, HB.out⟩
end Go.Proofs.Ytebdboacmeafaaa
