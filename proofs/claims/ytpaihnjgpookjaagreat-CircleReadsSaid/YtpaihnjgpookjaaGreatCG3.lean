/- The law CircleReads. -/
import Derived.Test.YtpaihnjgpookjaaGreatCG2
import Derived.Test.YtpaihnjgpookjaaGreatCF1
import Derived.Test.YtpaihnjgpookjaaGreatCKA
set_option linter.unusedVariables false
set_option linter.unusedSimpArgs false
namespace Go.Proofs.YtpaihnjgpookjaaGreat
open Go Go.RowKit

set_option maxRecDepth 100000 in
set_option maxHeartbeats 8000000 in
theorem reads_card (v1 v2 : Value) (cs : List Ci) (ks : List Ck) (rc rt rs rl a b c d z s : Int) (w : World) (hv1 : CiRow w v1 cs) (hv2 : CkRow w v2 ks) (hl1 : cs.length ≤ 9223372036854775807) (hl2 : ks.length ≤ 9223372036854775807) (h5 : -9223372036854775808 ≤ z ∧ z ≤ 9223372036854775807) (h6 : -9223372036854775808 ≤ s ∧ s ≤ 9223372036854775807) :
    Calls Tryz.prog 4 #[.agg #[v1, v2], .agg #[.int .i64 rc, .int .i64 rt, .int .i64 rs, .int .i64 rl], .agg #[.int .i64 a, .int .i64 b], .agg #[.int .i64 c, .int .i64 d], .int .i64 z, .int .i64 s] w fun e w' => e = .returned (.bool true) ∧ Below w.heap.size w w' := by
  obtain ⟨a1, c1, rfl, _⟩ := hv1.form
  obtain ⟨a2, c2, rfl, _⟩ := hv2.form
  have HF := Lib.hid (fun w' => few_any a1 a2 cs.length c1 ks.length c2 w')
  have H1 := Lib.hid (fun w' => Shows_any a b c d z s w')
  have H2 := Lib.hid (fun w' => pShows_any a b c d z s w')
  have H3 := Lib.hid (fun w' (h : Below w.heap.size w w') => Wedge_any (.slice a1 cs.length c1) (.slice a2 ks.length c2) cs ks rc rt rs rl w' (hv1.keep h) (hv2.keep h) hl1 hl2)
  have H4 := Lib.hid (fun w' (h : Below w.heap.size w w') => pWedge_any (.slice a1 cs.length c1) (.slice a2 ks.length c2) cs ks rc rt rs rl w' (hv1.keep h) (hv2.keep h) hl1 hl2)
  have H5 := Lib.hid (fun w' => sanity_any w')
  rw [wg_eq] at H3
  obtain ⟨RE, hRE⟩ : ∃ N, rwE cs ks rc rt rs rl = N := ⟨_, rfl⟩
  obtain ⟨RF, hRF⟩ : ∃ N, rwF cs ks rc rt rs rl = N := ⟨_, rfl⟩
  obtain ⟨RT, hRT⟩ : ∃ N, rwT cs ks rc rt rs rl = N := ⟨_, rfl⟩
  obtain ⟨LO, hLO⟩ : ∃ N, shLo a b c d z s = N := ⟨_, rfl⟩
  obtain ⟨HI, hHI⟩ : ∃ N, shHi a b c d z s = N := ⟨_, rfl⟩
  obtain ⟨SB, hSB⟩ : ∃ N, shB a b c d z s = N := ⟨_, rfl⟩
  rw [hRE, hRF, hRT] at H3 H4
  rw [hLO, hHI, hSB] at H1 H2
  obtain ⟨n, hn⟩ : ∃ n, cs.length = n := ⟨_, rfl⟩
  obtain ⟨m, hm⟩ : ∃ n, ks.length = n := ⟨_, rfl⟩
  rw [hn, hm] at HF H3 H4 ⊢
  obtain ⟨B, hB⟩ : ∃ B, fwB n m = B := ⟨_, rfl⟩
  rw [hB] at HF
  clear hv1 hv2 hl1 hl2 hRE hRF hRT hLO hHI hSB hn hm hB
  obtain ⟨x0, x1, x2, x3, xlt, xb⟩ := cells4 w #[.slice a1 n c1, .slice a2 m c2] #[.int .i64 rc, .int .i64 rt, .int .i64 rs, .int .i64 rl] #[.int .i64 a, .int .i64 b] #[.int .i64 c, .int .i64 d] 25 44 46 46 (Below.refl _ _)
  have HNc : Hid (((((w.alloc (.cells #[.slice a1 n c1, .slice a2 m c2] 25)).alloc (.cells #[.int .i64 rc, .int .i64 rt, .int .i64 rs, .int .i64 rl] 44)).alloc (.cells #[.int .i64 a, .int .i64 b] 46)).alloc (.cells #[.int .i64 c, .int .i64 d] 46)).heap[w.heap.size]? = some (.cells #[.slice a1 n c1, .slice a2 m c2] 25 (0, 0))) := Lib.hid x0
  have HNq : Hid (((((w.alloc (.cells #[.slice a1 n c1, .slice a2 m c2] 25)).alloc (.cells #[.int .i64 rc, .int .i64 rt, .int .i64 rs, .int .i64 rl] 44)).alloc (.cells #[.int .i64 a, .int .i64 b] 46)).alloc (.cells #[.int .i64 c, .int .i64 d] 46)).heap[w.heap.size + 1]? = some (.cells #[.int .i64 rc, .int .i64 rt, .int .i64 rs, .int .i64 rl] 44 (0, 0))) := Lib.hid x1
  have HNf : Hid (((((w.alloc (.cells #[.slice a1 n c1, .slice a2 m c2] 25)).alloc (.cells #[.int .i64 rc, .int .i64 rt, .int .i64 rs, .int .i64 rl] 44)).alloc (.cells #[.int .i64 a, .int .i64 b] 46)).alloc (.cells #[.int .i64 c, .int .i64 d] 46)).heap[w.heap.size + 1 + 1]? = some (.cells #[.int .i64 a, .int .i64 b] 46 (0, 0))) := Lib.hid x2
  have HNt : Hid (((((w.alloc (.cells #[.slice a1 n c1, .slice a2 m c2] 25)).alloc (.cells #[.int .i64 rc, .int .i64 rt, .int .i64 rs, .int .i64 rl] 44)).alloc (.cells #[.int .i64 a, .int .i64 b] 46)).alloc (.cells #[.int .i64 c, .int .i64 d] 46)).heap[w.heap.size + 1 + 1 + 1]? = some (.cells #[.int .i64 c, .int .i64 d] 46 (0, 0))) := Lib.hid x3
  have HB : Hid (Below w.heap.size w ((((w.alloc (.cells #[.slice a1 n c1, .slice a2 m c2] 25)).alloc (.cells #[.int .i64 rc, .int .i64 rt, .int .i64 rs, .int .i64 rl] 44)).alloc (.cells #[.int .i64 a, .int .i64 b] 46)).alloc (.cells #[.int .i64 c, .int .i64 d] 46))) := Lib.hid xb
  obtain ⟨Z, hZ⟩ : ∃ Z, ((((w.alloc (.cells #[.slice a1 n c1, .slice a2 m c2] 25)).alloc (.cells #[.int .i64 rc, .int .i64 rt, .int .i64 rs, .int .i64 rl] 44)).alloc (.cells #[.int .i64 a, .int .i64 b] 46)).alloc (.cells #[.int .i64 c, .int .i64 d] 46)) = Z := ⟨_, rfl⟩
  rw [hZ] at HB HNc HNq HNf HNt
  have HZ := Lib.hid hZ
  clear hZ xlt xb x0 x1 x2 x3
  go_enter Tryz.func4, Tryz.ntmps4
  go_wp2_with fail
  rw [HZ.out]
  refine (HF.out _).mono ?_
  rintro e w1 ⟨rfl, hb⟩
  replace HB := Lib.hid (HB.out.trans (hb.mono HB.out.size))
  replace HNc := Lib.hid ((hb.block _ (Array.getElem?_eq_some_iff.1 HNc.out).1).trans HNc.out)
  replace HNq := Lib.hid ((hb.block _ (Array.getElem?_eq_some_iff.1 HNq.out).1).trans HNq.out)
  replace HNf := Lib.hid ((hb.block _ (Array.getElem?_eq_some_iff.1 HNf.out).1).trans HNf.out)
  replace HNt := Lib.hid ((hb.block _ (Array.getElem?_eq_some_iff.1 HNt.out).1).trans HNt.out)
  clear hb
  cases B
  · skip
    have zc0 := cellH HNc.out 0
    have zc1 := cellH HNc.out 1
    simp only [List.getElem?_toArray, List.getElem?_cons_zero, List.getElem?_cons_succ] at zc0 zc1
    go_wp2_with fail
    refine (H5.out _).mono ?_
    rintro e w2 ⟨rfl, hb⟩
    clear zc0 zc1
    replace HB := Lib.hid (HB.out.trans (hb.mono HB.out.size))
    replace HNc := Lib.hid ((hb.block _ (Array.getElem?_eq_some_iff.1 HNc.out).1).trans HNc.out)
    replace HNq := Lib.hid ((hb.block _ (Array.getElem?_eq_some_iff.1 HNq.out).1).trans HNq.out)
    replace HNf := Lib.hid ((hb.block _ (Array.getElem?_eq_some_iff.1 HNf.out).1).trans HNf.out)
    replace HNt := Lib.hid ((hb.block _ (Array.getElem?_eq_some_iff.1 HNt.out).1).trans HNt.out)
    clear hb
    go_wp2_with fail
    go_ret
    exact ⟨rfl, HB.out⟩
  have zf0 := cellH HNf.out 0
  have zf1 := cellH HNf.out 1
  have zt0 := cellH HNt.out 0
  have zt1 := cellH HNt.out 1
  simp only [List.getElem?_toArray, List.getElem?_cons_zero, List.getElem?_cons_succ] at zf0 zf1 zt0 zt1
  go_wp2_with fail
  refine (H1.out _).mono ?_
  rintro e w3 ⟨rfl, hb⟩
  clear zf0 zf1 zt0 zt1
  replace HB := Lib.hid (HB.out.trans (hb.mono HB.out.size))
  replace HNc := Lib.hid ((hb.block _ (Array.getElem?_eq_some_iff.1 HNc.out).1).trans HNc.out)
  replace HNq := Lib.hid ((hb.block _ (Array.getElem?_eq_some_iff.1 HNq.out).1).trans HNq.out)
  replace HNf := Lib.hid ((hb.block _ (Array.getElem?_eq_some_iff.1 HNf.out).1).trans HNf.out)
  replace HNt := Lib.hid ((hb.block _ (Array.getElem?_eq_some_iff.1 HNt.out).1).trans HNt.out)
  clear hb
  have hAlc : Below w3.heap.size w3 (w3.alloc (.cells #[.int .i64 LO, .int .i64 HI] 48)) := (Below.refl _ w3).alloc (Nat.le_refl _) _
  have HSsp : Hid (w.heap.size ≤ w3.heap.size) := Lib.hid HB.out.size
  have HNsp : Hid ((w3.alloc (.cells #[.int .i64 LO, .int .i64 HI] 48)).heap[w3.heap.size]? = some (.cells #[.int .i64 LO, .int .i64 HI] 48 (0, 0))) := Lib.hid (heap_alloc_new _ _)
  replace HB := Lib.hid (HB.out.trans (hAlc.mono HB.out.size))
  have HXc_sp : Hid (w.heap.size ≠ w3.heap.size) := Lib.hid (Nat.ne_of_lt (Array.getElem?_eq_some_iff.1 HNc.out).1)
  have HXq_sp : Hid (w.heap.size + 1 ≠ w3.heap.size) := Lib.hid (Nat.ne_of_lt (Array.getElem?_eq_some_iff.1 HNq.out).1)
  have HXf_sp : Hid (w.heap.size + 1 + 1 ≠ w3.heap.size) := Lib.hid (Nat.ne_of_lt (Array.getElem?_eq_some_iff.1 HNf.out).1)
  have HXt_sp : Hid (w.heap.size + 1 + 1 + 1 ≠ w3.heap.size) := Lib.hid (Nat.ne_of_lt (Array.getElem?_eq_some_iff.1 HNt.out).1)
  replace HNc := Lib.hid ((hAlc.block _ (Array.getElem?_eq_some_iff.1 HNc.out).1).trans HNc.out)
  replace HNq := Lib.hid ((hAlc.block _ (Array.getElem?_eq_some_iff.1 HNq.out).1).trans HNq.out)
  replace HNf := Lib.hid ((hAlc.block _ (Array.getElem?_eq_some_iff.1 HNf.out).1).trans HNf.out)
  replace HNt := Lib.hid ((hAlc.block _ (Array.getElem?_eq_some_iff.1 HNt.out).1).trans HNt.out)
  obtain ⟨asp, hasp⟩ : ∃ qq, w3.alloc (.cells #[.int .i64 LO, .int .i64 HI] 48) = qq := ⟨_, rfl⟩
  obtain ⟨bksp, hbsp⟩ : ∃ qq, w3.heap.size = qq := ⟨_, rfl⟩
  rw [hasp] at HB HNsp HNc HNq HNf HNt
  rw [hbsp] at HNsp HSsp HXc_sp HXq_sp HXf_sp HXt_sp
  clear hAlc
  have zf0 := cellH HNf.out 0
  have zf1 := cellH HNf.out 1
  have zt0 := cellH HNt.out 0
  have zt1 := cellH HNt.out 1
  simp only [List.getElem?_toArray, List.getElem?_cons_zero, List.getElem?_cons_succ] at zf0 zf1 zt0 zt1
  go_wp2_with fail
  try clear hasp hbsp
  refine (H2.out _).mono ?_
  rintro e w4 ⟨rfl, hb⟩
  clear zf0 zf1 zt0 zt1
  replace HB := Lib.hid (HB.out.trans (hb.mono HB.out.size))
  replace HNc := Lib.hid ((hb.block _ (Array.getElem?_eq_some_iff.1 HNc.out).1).trans HNc.out)
  replace HNq := Lib.hid ((hb.block _ (Array.getElem?_eq_some_iff.1 HNq.out).1).trans HNq.out)
  replace HNf := Lib.hid ((hb.block _ (Array.getElem?_eq_some_iff.1 HNf.out).1).trans HNf.out)
  replace HNt := Lib.hid ((hb.block _ (Array.getElem?_eq_some_iff.1 HNt.out).1).trans HNt.out)
  replace HNsp := Lib.hid ((hb.block _ (Array.getElem?_eq_some_iff.1 HNsp.out).1).trans HNsp.out)
  clear hb
  have hAlc : Below w4.heap.size w4 (w4.alloc (.cells #[.int .i64 LO, .int .i64 HI] 48)) := (Below.refl _ w4).alloc (Nat.le_refl _) _
  have HSsq : Hid (w.heap.size ≤ w4.heap.size) := Lib.hid HB.out.size
  have HNsq : Hid ((w4.alloc (.cells #[.int .i64 LO, .int .i64 HI] 48)).heap[w4.heap.size]? = some (.cells #[.int .i64 LO, .int .i64 HI] 48 (0, 0))) := Lib.hid (heap_alloc_new _ _)
  replace HB := Lib.hid (HB.out.trans (hAlc.mono HB.out.size))
  have HXc_sq : Hid (w.heap.size ≠ w4.heap.size) := Lib.hid (Nat.ne_of_lt (Array.getElem?_eq_some_iff.1 HNc.out).1)
  have HXq_sq : Hid (w.heap.size + 1 ≠ w4.heap.size) := Lib.hid (Nat.ne_of_lt (Array.getElem?_eq_some_iff.1 HNq.out).1)
  have HXf_sq : Hid (w.heap.size + 1 + 1 ≠ w4.heap.size) := Lib.hid (Nat.ne_of_lt (Array.getElem?_eq_some_iff.1 HNf.out).1)
  have HXt_sq : Hid (w.heap.size + 1 + 1 + 1 ≠ w4.heap.size) := Lib.hid (Nat.ne_of_lt (Array.getElem?_eq_some_iff.1 HNt.out).1)
  have HXsp_sq : Hid (bksp ≠ w4.heap.size) := Lib.hid (Nat.ne_of_lt (Array.getElem?_eq_some_iff.1 HNsp.out).1)
  replace HNc := Lib.hid ((hAlc.block _ (Array.getElem?_eq_some_iff.1 HNc.out).1).trans HNc.out)
  replace HNq := Lib.hid ((hAlc.block _ (Array.getElem?_eq_some_iff.1 HNq.out).1).trans HNq.out)
  replace HNf := Lib.hid ((hAlc.block _ (Array.getElem?_eq_some_iff.1 HNf.out).1).trans HNf.out)
  replace HNt := Lib.hid ((hAlc.block _ (Array.getElem?_eq_some_iff.1 HNt.out).1).trans HNt.out)
  replace HNsp := Lib.hid ((hAlc.block _ (Array.getElem?_eq_some_iff.1 HNsp.out).1).trans HNsp.out)
  obtain ⟨asq, hasq⟩ : ∃ qq, w4.alloc (.cells #[.int .i64 LO, .int .i64 HI] 48) = qq := ⟨_, rfl⟩
  obtain ⟨bksq, hbsq⟩ : ∃ qq, w4.heap.size = qq := ⟨_, rfl⟩
  rw [hasq] at HB HNsq HNc HNq HNf HNt HNsp
  rw [hbsq] at HNsq HSsq HXc_sq HXq_sq HXf_sq HXt_sq HXsp_sq
  clear hAlc
  have zc0 := cellH HNc.out 0
  have zc1 := cellH HNc.out 1
  have zq0 := cellH HNq.out 0
  have zq1 := cellH HNq.out 1
  have zq2 := cellH HNq.out 2
  have zq3 := cellH HNq.out 3
  simp only [List.getElem?_toArray, List.getElem?_cons_zero, List.getElem?_cons_succ] at zc0 zc1 zq0 zq1 zq2 zq3
  go_wp2_with fail
  try clear hasq hbsq
  refine (H3.out _ HB.out).mono ?_
  rintro e w5 ⟨rfl, hb⟩
  clear zc0 zc1 zq0 zq1 zq2 zq3
  replace HB := Lib.hid (HB.out.trans (hb.mono HB.out.size))
  replace HNc := Lib.hid ((hb.block _ (Array.getElem?_eq_some_iff.1 HNc.out).1).trans HNc.out)
  replace HNq := Lib.hid ((hb.block _ (Array.getElem?_eq_some_iff.1 HNq.out).1).trans HNq.out)
  replace HNf := Lib.hid ((hb.block _ (Array.getElem?_eq_some_iff.1 HNf.out).1).trans HNf.out)
  replace HNt := Lib.hid ((hb.block _ (Array.getElem?_eq_some_iff.1 HNt.out).1).trans HNt.out)
  replace HNsp := Lib.hid ((hb.block _ (Array.getElem?_eq_some_iff.1 HNsp.out).1).trans HNsp.out)
  replace HNsq := Lib.hid ((hb.block _ (Array.getElem?_eq_some_iff.1 HNsq.out).1).trans HNsq.out)
  clear hb
  have hAlc : Below w5.heap.size w5 (w5.alloc (.cells #[.int .i64 RF, .int .i64 RT] 52)) := (Below.refl _ w5).alloc (Nat.le_refl _) _
  have HSk : Hid (w.heap.size ≤ w5.heap.size) := Lib.hid HB.out.size
  have HNk : Hid ((w5.alloc (.cells #[.int .i64 RF, .int .i64 RT] 52)).heap[w5.heap.size]? = some (.cells #[.int .i64 RF, .int .i64 RT] 52 (0, 0))) := Lib.hid (heap_alloc_new _ _)
  replace HB := Lib.hid (HB.out.trans (hAlc.mono HB.out.size))
  have HXc_k : Hid (w.heap.size ≠ w5.heap.size) := Lib.hid (Nat.ne_of_lt (Array.getElem?_eq_some_iff.1 HNc.out).1)
  have HXq_k : Hid (w.heap.size + 1 ≠ w5.heap.size) := Lib.hid (Nat.ne_of_lt (Array.getElem?_eq_some_iff.1 HNq.out).1)
  have HXf_k : Hid (w.heap.size + 1 + 1 ≠ w5.heap.size) := Lib.hid (Nat.ne_of_lt (Array.getElem?_eq_some_iff.1 HNf.out).1)
  have HXt_k : Hid (w.heap.size + 1 + 1 + 1 ≠ w5.heap.size) := Lib.hid (Nat.ne_of_lt (Array.getElem?_eq_some_iff.1 HNt.out).1)
  have HXsp_k : Hid (bksp ≠ w5.heap.size) := Lib.hid (Nat.ne_of_lt (Array.getElem?_eq_some_iff.1 HNsp.out).1)
  have HXsq_k : Hid (bksq ≠ w5.heap.size) := Lib.hid (Nat.ne_of_lt (Array.getElem?_eq_some_iff.1 HNsq.out).1)
  replace HNc := Lib.hid ((hAlc.block _ (Array.getElem?_eq_some_iff.1 HNc.out).1).trans HNc.out)
  replace HNq := Lib.hid ((hAlc.block _ (Array.getElem?_eq_some_iff.1 HNq.out).1).trans HNq.out)
  replace HNf := Lib.hid ((hAlc.block _ (Array.getElem?_eq_some_iff.1 HNf.out).1).trans HNf.out)
  replace HNt := Lib.hid ((hAlc.block _ (Array.getElem?_eq_some_iff.1 HNt.out).1).trans HNt.out)
  replace HNsp := Lib.hid ((hAlc.block _ (Array.getElem?_eq_some_iff.1 HNsp.out).1).trans HNsp.out)
  replace HNsq := Lib.hid ((hAlc.block _ (Array.getElem?_eq_some_iff.1 HNsq.out).1).trans HNsq.out)
  obtain ⟨ak, hak⟩ : ∃ qq, w5.alloc (.cells #[.int .i64 RF, .int .i64 RT] 52) = qq := ⟨_, rfl⟩
  obtain ⟨bkk, hbk⟩ : ∃ qq, w5.heap.size = qq := ⟨_, rfl⟩
  rw [hak] at HB HNk HNc HNq HNf HNt HNsp HNsq
  rw [hbk] at HNk HSk HXc_k HXq_k HXf_k HXt_k HXsp_k HXsq_k
  clear hAlc
  have zc0 := cellH HNc.out 0
  have zc1 := cellH HNc.out 1
  have zq0 := cellH HNq.out 0
  have zq1 := cellH HNq.out 1
  have zq2 := cellH HNq.out 2
  have zq3 := cellH HNq.out 3
  simp only [List.getElem?_toArray, List.getElem?_cons_zero, List.getElem?_cons_succ] at zc0 zc1 zq0 zq1 zq2 zq3
  go_wp2_with fail
  try clear hak hbk
  refine (H4.out _ HB.out).mono ?_
  rintro e w6 ⟨rfl, hb⟩
  clear zc0 zc1 zq0 zq1 zq2 zq3
  replace HB := Lib.hid (HB.out.trans (hb.mono HB.out.size))
  replace HNc := Lib.hid ((hb.block _ (Array.getElem?_eq_some_iff.1 HNc.out).1).trans HNc.out)
  replace HNq := Lib.hid ((hb.block _ (Array.getElem?_eq_some_iff.1 HNq.out).1).trans HNq.out)
  replace HNf := Lib.hid ((hb.block _ (Array.getElem?_eq_some_iff.1 HNf.out).1).trans HNf.out)
  replace HNt := Lib.hid ((hb.block _ (Array.getElem?_eq_some_iff.1 HNt.out).1).trans HNt.out)
  replace HNsp := Lib.hid ((hb.block _ (Array.getElem?_eq_some_iff.1 HNsp.out).1).trans HNsp.out)
  replace HNsq := Lib.hid ((hb.block _ (Array.getElem?_eq_some_iff.1 HNsq.out).1).trans HNsq.out)
  replace HNk := Lib.hid ((hb.block _ (Array.getElem?_eq_some_iff.1 HNk.out).1).trans HNk.out)
  clear hb
  have hAlc : Below w6.heap.size w6 (w6.alloc (.cells #[.int .i64 RF, .int .i64 RT, .int .i64 RE] 56)) := (Below.refl _ w6).alloc (Nat.le_refl _) _
  have HSx : Hid (w.heap.size ≤ w6.heap.size) := Lib.hid HB.out.size
  have HNx : Hid ((w6.alloc (.cells #[.int .i64 RF, .int .i64 RT, .int .i64 RE] 56)).heap[w6.heap.size]? = some (.cells #[.int .i64 RF, .int .i64 RT, .int .i64 RE] 56 (0, 0))) := Lib.hid (heap_alloc_new _ _)
  replace HB := Lib.hid (HB.out.trans (hAlc.mono HB.out.size))
  have HXc_x : Hid (w.heap.size ≠ w6.heap.size) := Lib.hid (Nat.ne_of_lt (Array.getElem?_eq_some_iff.1 HNc.out).1)
  have HXq_x : Hid (w.heap.size + 1 ≠ w6.heap.size) := Lib.hid (Nat.ne_of_lt (Array.getElem?_eq_some_iff.1 HNq.out).1)
  have HXf_x : Hid (w.heap.size + 1 + 1 ≠ w6.heap.size) := Lib.hid (Nat.ne_of_lt (Array.getElem?_eq_some_iff.1 HNf.out).1)
  have HXt_x : Hid (w.heap.size + 1 + 1 + 1 ≠ w6.heap.size) := Lib.hid (Nat.ne_of_lt (Array.getElem?_eq_some_iff.1 HNt.out).1)
  have HXsp_x : Hid (bksp ≠ w6.heap.size) := Lib.hid (Nat.ne_of_lt (Array.getElem?_eq_some_iff.1 HNsp.out).1)
  have HXsq_x : Hid (bksq ≠ w6.heap.size) := Lib.hid (Nat.ne_of_lt (Array.getElem?_eq_some_iff.1 HNsq.out).1)
  have HXk_x : Hid (bkk ≠ w6.heap.size) := Lib.hid (Nat.ne_of_lt (Array.getElem?_eq_some_iff.1 HNk.out).1)
  replace HNc := Lib.hid ((hAlc.block _ (Array.getElem?_eq_some_iff.1 HNc.out).1).trans HNc.out)
  replace HNq := Lib.hid ((hAlc.block _ (Array.getElem?_eq_some_iff.1 HNq.out).1).trans HNq.out)
  replace HNf := Lib.hid ((hAlc.block _ (Array.getElem?_eq_some_iff.1 HNf.out).1).trans HNf.out)
  replace HNt := Lib.hid ((hAlc.block _ (Array.getElem?_eq_some_iff.1 HNt.out).1).trans HNt.out)
  replace HNsp := Lib.hid ((hAlc.block _ (Array.getElem?_eq_some_iff.1 HNsp.out).1).trans HNsp.out)
  replace HNsq := Lib.hid ((hAlc.block _ (Array.getElem?_eq_some_iff.1 HNsq.out).1).trans HNsq.out)
  replace HNk := Lib.hid ((hAlc.block _ (Array.getElem?_eq_some_iff.1 HNk.out).1).trans HNk.out)
  obtain ⟨ax, hax⟩ : ∃ qq, w6.alloc (.cells #[.int .i64 RF, .int .i64 RT, .int .i64 RE] 56) = qq := ⟨_, rfl⟩
  obtain ⟨bkx, hbx⟩ : ∃ qq, w6.heap.size = qq := ⟨_, rfl⟩
  rw [hax] at HB HNx HNc HNq HNf HNt HNsp HNsq HNk
  rw [hbx] at HNx HSx HXc_x HXq_x HXf_x HXt_x HXsp_x HXsq_x HXk_x
  clear hAlc
  have zc0 := cellH HNc.out 0
  have zc1 := cellH HNc.out 1
  simp only [List.getElem?_toArray, List.getElem?_cons_zero, List.getElem?_cons_succ] at zc0 zc1
  go_wp2_with fail
  try clear hax hbx
  refine (H5.out _).mono ?_
  rintro e w7 ⟨rfl, hb⟩
  clear zc0 zc1
  replace HB := Lib.hid (HB.out.trans (hb.mono HB.out.size))
  replace HNc := Lib.hid ((hb.block _ (Array.getElem?_eq_some_iff.1 HNc.out).1).trans HNc.out)
  replace HNq := Lib.hid ((hb.block _ (Array.getElem?_eq_some_iff.1 HNq.out).1).trans HNq.out)
  replace HNf := Lib.hid ((hb.block _ (Array.getElem?_eq_some_iff.1 HNf.out).1).trans HNf.out)
  replace HNt := Lib.hid ((hb.block _ (Array.getElem?_eq_some_iff.1 HNt.out).1).trans HNt.out)
  replace HNsp := Lib.hid ((hb.block _ (Array.getElem?_eq_some_iff.1 HNsp.out).1).trans HNsp.out)
  replace HNsq := Lib.hid ((hb.block _ (Array.getElem?_eq_some_iff.1 HNsq.out).1).trans HNsq.out)
  replace HNk := Lib.hid ((hb.block _ (Array.getElem?_eq_some_iff.1 HNk.out).1).trans HNk.out)
  replace HNx := Lib.hid ((hb.block _ (Array.getElem?_eq_some_iff.1 HNx.out).1).trans HNx.out)
  clear hb
  have zsp0 := cellH HNsp.out 0
  have zsp1 := cellH HNsp.out 1
  have zsq0 := cellH HNsq.out 0
  have zsq1 := cellH HNsq.out 1
  have zk0 := cellH HNk.out 0
  have zk1 := cellH HNk.out 1
  have zx0 := cellH HNx.out 0
  have zx1 := cellH HNx.out 1
  have zx2 := cellH HNx.out 2
  simp only [List.getElem?_toArray, List.getElem?_cons_zero, List.getElem?_cons_succ] at zsp0 zsp1 zsq0 zsq1 zk0 zk1 zx0 zx1 zx2
  go_wp2_with fail
  go_ret
  exact ⟨rfl, HB.out⟩
section
open Go.ChangeShapes Go.WideShapes Go.ChangeAt Go.Deep
variable {H : Type} {enc : TypeId × Value → H} {W : World} {r : Reach} {b0 base : Nat} {sp : Nat → Bool} {held : Bool} {v : Value} {d : DataW H} {p : List MemPlace}
set_option maxRecDepth 100000 in
theorem open_reading (hv : Value.okWide Tryz.prog W r b0 44 v) (h : DataW.Trod enc Tryz.prog W base sp held 44 v d p) : ∃ a b c e : Int, v = .agg #[.int .i64 a, .int .i64 b, .int .i64 c, .int .i64 e] := by
  obtain ⟨x0, x1, x2, x3, y0, y1, y2, y3, n, rfl, rfl, rfl, t0, t1, t2, t3⟩ := Go.Joins.open_agg4 Tryz.underlying44 (by kernel_rfl) (by kernel_rfl) hv h
  obtain ⟨a, e0, _, _⟩ := DataW.trod_int Tryz.underlying3 t0
  obtain ⟨b, e1, _, _⟩ := DataW.trod_int Tryz.underlying3 t1
  obtain ⟨c, e2, _, _⟩ := DataW.trod_int Tryz.underlying3 t2
  obtain ⟨e, e3, _, _⟩ := DataW.trod_int Tryz.underlying3 t3
  cases e0; cases e1; cases e2; cases e3
  exact ⟨a, b, c, e, rfl⟩
end
end Go.Proofs.YtpaihnjgpookjaaGreat
