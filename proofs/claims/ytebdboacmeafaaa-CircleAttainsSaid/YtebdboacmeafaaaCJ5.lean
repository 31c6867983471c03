/- The law CircleAttains where nothing is asked. -/
import Derived.Test.YtebdboacmeafaaaCJ3
import Derived.Test.YtebdboacmeafaaaCJ4
import Derived.Test.YtebdboacmeafaaaCF1
import Derived.Test.YtebdboacmeafaaaCKB
import Derived.Laws.StructEq
set_option linter.unusedVariables false
set_option linter.unusedSimpArgs false
namespace Go.Proofs.Ytebdboacmeafaaa
open Go Go.RowKit

set_option maxRecDepth 100000 in
set_option maxHeartbeats 8000000 in
theorem attains_out (v1 v2 : Value) (cs : List Ci) (ks : List Ck) (id lo hi at_ n : Int) (w : World) (hv1 : CiRow w v1 cs) (hv2 : CkRow w v2 ks) (hl1 : cs.length ≤ 9223372036854775807) (hl2 : ks.length ≤ 9223372036854775807) (hid : -9223372036854775808 ≤ id ∧ id ≤ 9223372036854775807) (hlo : -9223372036854775808 ≤ lo ∧ lo ≤ 9223372036854775807) (hhi : -9223372036854775808 ≤ hi ∧ hi ≤ 9223372036854775807) (hat : 0 ≤ at_ ∧ at_ ≤ 65535) (hnr : 0 ≤ n ∧ n ≤ 65535) (hout : fwB cs.length ks.length = false ∨ lo < 0 ∨ 1048576 < hi ∨ hi < lo ∨ 60 ≤ hi - lo) :
    Calls Try.prog 3 #[.agg #[v1, v2], .int .i64 id, .agg #[.int .i64 lo, .int .i64 hi], .int .u16 at_, .int .u16 n] w fun e w' => e = .returned (.bool true) ∧ Below w.heap.size w w' := by
  obtain ⟨a1, c1, rfl, _⟩ := hv1.form
  obtain ⟨a2, c2, rfl, _⟩ := hv2.form
  have HOUT := Lib.hid hout
  have HAT := Lib.hid hat
  have HNR := Lib.hid hnr
  have HF := Lib.hid (fun w' => few_any a1 a2 cs.length c1 ks.length c2 w')
  have HLW := Lib.hid (fun w' (h : Below w.heap.size w w') => Lowest_any (.slice a1 cs.length c1) (.slice a2 ks.length c2) cs ks id lo hi w' (hv1.keep h) (hv2.keep h) hl1 hl2)
  have HHW := Lib.hid (fun w' (h : Below w.heap.size w w') => Highest_any (.slice a1 cs.length c1) (.slice a2 ks.length c2) cs ks id lo hi w' (hv1.keep h) (hv2.keep h) hl1 hl2)
  have HCL := Lib.hid (fun w' (h : Below w.heap.size w w') => Clashes_any (.slice a1 cs.length c1) (.slice a2 ks.length c2) cs ks w' (hv1.keep h) (hv2.keep h) hl1 hl2)
  have HFT := Lib.hid (fun zv zl w' (h : Below w.heap.size w w') (hz : INRow w' zv zl) (hc : P2Cap zv) (hn : zl.length ≤ 60) (hb : 0 ≤ lo ∧ lo ≤ 1048576) => Fits_any (.slice a1 cs.length c1) (.slice a2 ks.length c2) zv cs ks id lo zl w' (hv1.keep h) (hv2.keep h) hz hc hl1 hl2 (by omega) (by omega))
  have HZR := Lib.hid (fun t w' (h : Below w.heap.size w w') => Zero_any (.slice a1 cs.length c1) (.slice a2 ks.length c2) cs ks id t w' (hv1.keep h) (hv2.keep h) hl1 hl2)
  have H5 := Lib.hid (fun w' => sanity_any w')
  have HOK := Lib.hid (sn_ok (cs := cs) (ks := ks) (id := id) (lo := lo) (hi := hi))
  have HAF := Lib.hid (fun h z hz => at_fits (cs := cs) (ks := ks) (id := id) (lo := lo) (hi := hi) (z := z) h hz)
  have HAZ := Lib.hid (fun h z hz j => at_zero (cs := cs) (ks := ks) (id := id) (lo := lo) (hi := hi) (z := z) h hz (j := j))
  have HAE := Lib.hid (fun h z hz j => at_le (cs := cs) (ks := ks) (id := id) (lo := lo) (hi := hi) (z := z) h hz (j := j))
  have HAB := Lib.hid (fun h z hz j => at_bd (cs := cs) (ks := ks) (id := id) (lo := lo) (hi := hi) (z := z) h hz (j := j))
  have HAN := Lib.hid (fun h z hz k zl => at_no (cs := cs) (ks := ks) (id := id) (lo := lo) (hi := hi) (z := z) h hz (k := k) (zl := zl))
  have HAC := Lib.hid (at_clash (cs := cs) (ks := ks) (id := id) (lo := lo) (hi := hi))
  unfold EnOut at HLW HHW
  unfold ClOut at HCL
  obtain ⟨E, hE⟩ : ∃ q, snE cs ks id lo hi = q := ⟨_, rfl⟩
  obtain ⟨F, hF⟩ : ∃ q, ciF cs id = q := ⟨_, rfl⟩
  obtain ⟨CE, hCE⟩ : ∃ q, ccE cs ks = q := ⟨_, rfl⟩
  obtain ⟨PL, hPL⟩ : ∃ q, clK cs ks cs.length = q := ⟨_, rfl⟩
  simp only [hE, hF] at HLW HHW HOK HAF HAZ HAE HAN HAB HAC
  simp only [hCE, hPL] at HCL HOK HAC
  obtain ⟨B0, hB0⟩ : ∃ B, fwB cs.length ks.length = B := ⟨_, rfl⟩
  rw [hB0] at HF HOUT
  obtain ⟨i0, hi0, hz0, hz1, hz2⟩ := info_parts info_in1
  clear hv1 hv2 hl1 hl2 hE hF hCE hPL hB0 hat hnr hout
  obtain ⟨x0, x1, xlt, xb⟩ := two_cells w #[.slice a1 cs.length c1, .slice a2 ks.length c2] #[.int .i64 lo, .int .i64 hi] 25 27 (Below.refl _ _)
  have HNc : Hid (((w.alloc (.cells #[.slice a1 cs.length c1, .slice a2 ks.length c2] 25)).alloc (.cells #[.int .i64 lo, .int .i64 hi] 27)).heap[w.heap.size]? = some (.cells #[.slice a1 cs.length c1, .slice a2 ks.length c2] 25 (0, 0))) := Lib.hid x0
  have HNt : Hid (((w.alloc (.cells #[.slice a1 cs.length c1, .slice a2 ks.length c2] 25)).alloc (.cells #[.int .i64 lo, .int .i64 hi] 27)).heap[w.heap.size + 1]? = some (.cells #[.int .i64 lo, .int .i64 hi] 27 (0, 0))) := Lib.hid x1
  have HB : Hid (Below w.heap.size w ((w.alloc (.cells #[.slice a1 cs.length c1, .slice a2 ks.length c2] 25)).alloc (.cells #[.int .i64 lo, .int .i64 hi] 27))) := Lib.hid xb
  obtain ⟨Z, hZ⟩ : ∃ Z, ((w.alloc (.cells #[.slice a1 cs.length c1, .slice a2 ks.length c2] 25)).alloc (.cells #[.int .i64 lo, .int .i64 hi] 27)) = Z := ⟨_, rfl⟩
  rw [hZ] at HB HNc HNt
  have HZ := Lib.hid hZ
  clear hZ xlt xb x0 x1
  go_enter Try.func3, Try.ntmps3
  go_wp2_with fail
  rw [HZ.out]
  refine (HF.out _).mono ?_
  rintro e w1 ⟨rfl, hb⟩
  replace HB := Lib.hid (HB.out.trans (hb.mono HB.out.size))
  replace HNc := Lib.hid ((hb.block _ (Array.getElem?_eq_some_iff.1 HNc.out).1).trans HNc.out)
  replace HNt := Lib.hid ((hb.block _ (Array.getElem?_eq_some_iff.1 HNt.out).1).trans HNt.out)
  clear hb
  cases B0
  · skip
    have zc0 := cellH HNc.out 0
    have zc1 := cellH HNc.out 1
    have zt0 := cellH HNt.out 0
    have zt1 := cellH HNt.out 1
    simp only [List.getElem?_toArray, List.getElem?_cons_zero, List.getElem?_cons_succ] at zc0 zc1 zt0 zt1
    go_wp2_with fail
    refine (H5.out _).mono ?_
    rintro e w2 ⟨rfl, hb⟩
    clear zc0 zc1 zt0 zt1
    replace HB := Lib.hid (HB.out.trans (hb.mono HB.out.size))
    replace HNc := Lib.hid ((hb.block _ (Array.getElem?_eq_some_iff.1 HNc.out).1).trans HNc.out)
    replace HNt := Lib.hid ((hb.block _ (Array.getElem?_eq_some_iff.1 HNt.out).1).trans HNt.out)
    clear hb
    go_wp2_with fail
    go_ret
    exact ⟨rfl, HB.out⟩
  by_cases q0 : lo < 0
  case pos =>
    have zc0 := cellH HNc.out 0
    have zc1 := cellH HNc.out 1
    have zt0 := cellH HNt.out 0
    have zt1 := cellH HNt.out 1
    simp only [List.getElem?_toArray, List.getElem?_cons_zero, List.getElem?_cons_succ] at zc0 zc1 zt0 zt1
    go_wp2_with fail
    refine (H5.out _).mono ?_
    rintro e w3 ⟨rfl, hb⟩
    clear zc0 zc1 zt0 zt1
    replace HB := Lib.hid (HB.out.trans (hb.mono HB.out.size))
    replace HNc := Lib.hid ((hb.block _ (Array.getElem?_eq_some_iff.1 HNc.out).1).trans HNc.out)
    replace HNt := Lib.hid ((hb.block _ (Array.getElem?_eq_some_iff.1 HNt.out).1).trans HNt.out)
    clear hb
    go_wp2_with fail
    go_ret
    exact ⟨rfl, HB.out⟩
  by_cases q1 : 1048576 < hi
  case pos =>
    have zc0 := cellH HNc.out 0
    have zc1 := cellH HNc.out 1
    have zt0 := cellH HNt.out 0
    have zt1 := cellH HNt.out 1
    simp only [List.getElem?_toArray, List.getElem?_cons_zero, List.getElem?_cons_succ] at zc0 zc1 zt0 zt1
    go_wp2_with fail
    refine (H5.out _).mono ?_
    rintro e w4 ⟨rfl, hb⟩
    clear zc0 zc1 zt0 zt1
    replace HB := Lib.hid (HB.out.trans (hb.mono HB.out.size))
    replace HNc := Lib.hid ((hb.block _ (Array.getElem?_eq_some_iff.1 HNc.out).1).trans HNc.out)
    replace HNt := Lib.hid ((hb.block _ (Array.getElem?_eq_some_iff.1 HNt.out).1).trans HNt.out)
    clear hb
    go_wp2_with fail
    go_ret
    exact ⟨rfl, HB.out⟩
  by_cases q2 : hi < lo
  case pos =>
    have zc0 := cellH HNc.out 0
    have zc1 := cellH HNc.out 1
    have zt0 := cellH HNt.out 0
    have zt1 := cellH HNt.out 1
    simp only [List.getElem?_toArray, List.getElem?_cons_zero, List.getElem?_cons_succ] at zc0 zc1 zt0 zt1
    go_wp2_with fail
    refine (H5.out _).mono ?_
    rintro e w5 ⟨rfl, hb⟩
    clear zc0 zc1 zt0 zt1
    replace HB := Lib.hid (HB.out.trans (hb.mono HB.out.size))
    replace HNc := Lib.hid ((hb.block _ (Array.getElem?_eq_some_iff.1 HNc.out).1).trans HNc.out)
    replace HNt := Lib.hid ((hb.block _ (Array.getElem?_eq_some_iff.1 HNt.out).1).trans HNt.out)
    clear hb
    go_wp2_with fail
    go_ret
    exact ⟨rfl, HB.out⟩
  have gw0 : IntKind.i64.wrap (hi - lo) = hi - lo := IntWalk.i64_in _ (by omega)
  by_cases q3 : 60 ≤ hi - lo
  case pos =>
    have zc0 := cellH HNc.out 0
    have zc1 := cellH HNc.out 1
    have zt0 := cellH HNt.out 0
    have zt1 := cellH HNt.out 1
    simp only [List.getElem?_toArray, List.getElem?_cons_zero, List.getElem?_cons_succ] at zc0 zc1 zt0 zt1
    go_wp2_with fail
    refine (H5.out _).mono ?_
    rintro e w6 ⟨rfl, hb⟩
    clear zc0 zc1 zt0 zt1
    replace HB := Lib.hid (HB.out.trans (hb.mono HB.out.size))
    replace HNc := Lib.hid ((hb.block _ (Array.getElem?_eq_some_iff.1 HNc.out).1).trans HNc.out)
    replace HNt := Lib.hid ((hb.block _ (Array.getElem?_eq_some_iff.1 HNt.out).1).trans HNt.out)
    clear hb
    go_wp2_with fail
    go_ret
    exact ⟨rfl, HB.out⟩
  exfalso
  rcases HOUT.out with h | h | h | h | h
  · exact absurd h (by decide)
  · omega
  · omega
  · omega
  · omega
end Go.Proofs.Ytebdboacmeafaaa
