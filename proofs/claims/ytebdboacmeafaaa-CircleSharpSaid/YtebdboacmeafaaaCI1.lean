/- The law CircleSharp. -/
import Derived.Test.YtebdboacmeafaaaCI0
import Derived.Test.YtebdboacmeafaaaCF1
import Derived.Test.YtebdboacmeafaaaCKA
import Derived.Laws.StructEq
set_option linter.unusedVariables false
set_option linter.unusedSimpArgs false
namespace Go.Proofs.Ytebdboacmeafaaa
open Go Go.RowKit

set_option maxRecDepth 100000 in
set_option maxHeartbeats 8000000 in
theorem sharp_card (v1 v2 : Value) (cs : List Ci) (ks : List Ck) (rc rt rs rl a b : Int) (w : World) (hv1 : CiRow w v1 cs) (hv2 : CkRow w v2 ks) (hl1 : cs.length ≤ 9223372036854775807) (hl2 : ks.length ≤ 9223372036854775807) :
    Calls Try.prog 5 #[.agg #[v1, v2], .agg #[.int .i64 rc, .int .i64 rt, .int .i64 rs, .int .i64 rl], .agg #[.int .i64 a, .int .i64 b]] w fun e w' => e = .returned (.bool true) ∧ Below w.heap.size w w' := by
  obtain ⟨a1, c1, rfl, hc1⟩ := hv1.form
  obtain ⟨a2, c2, rfl, _⟩ := hv2.form
  have HC1 := Lib.hid hc1
  have HF := Lib.hid (fun w' => few_any a1 a2 cs.length c1 ks.length c2 w')
  have H1 := Lib.hid (fun w' (h : Below w.heap.size w w') => Wedge_any (.slice a1 cs.length c1) (.slice a2 ks.length c2) cs ks rc rt rs rl w' (hv1.keep h) (hv2.keep h) hl1 hl2)
  have H2 := Lib.hid (fun w' (h : Below w.heap.size w w') => Zero_any (.slice a1 cs.length c1) (.slice a2 ks.length c2) cs ks rc rt w' (hv1.keep h) (hv2.keep h) hl1 hl2)
  have H5 := Lib.hid (fun w' => sanity_any w')
  rw [wg_eq] at H1
  have HRW := Lib.hid (fun h => rw_facts (cs := cs) (ks := ks) (rc := rc) (rt := rt) (rs := rs) (rl := rl) h)
  have HRZ : Hid (rwE cs ks rc rt rs rl = 0 → ∃ z : Ci, frP cs rc cs.length = (z.x, z.y) ∧ CcOk cs ks ∧ zrL cs ks rc rt ≤ zrH cs ks rc rt ∧ so2 (brB z.x z.y a b) (brUp z.x z.y a b) (brDn z.x z.y a b) rs rl (zrL cs ks rc rt) (zrH cs ks rc rt - zrL cs ks rc rt + 1).toNat = lsB (rwF cs ks rc rt rs rl) (rwT cs ks rc rt rs rl) z.x z.y a b) := Lib.hid (fun h => by
    obtain ⟨h1, _⟩ := rw_facts h
    obtain ⟨z, hz, ho, hl⟩ := zr_le h1
    exact ⟨z, frP_eq ho hz, ho, hl, so2_ls h hz a b⟩)
  have HZV : Hid (zrE cs ks rc rt = 0 → zrV cs ks rc rt = .tuple #[.agg #[.int .i64 (zrL cs ks rc rt), .int .i64 (zrH cs ks rc rt)], .int .i64 0]) := Lib.hid (fun h => by unfold zrV; rw [if_pos h])
  obtain ⟨RE, hRE⟩ : ∃ N, rwE cs ks rc rt rs rl = N := ⟨_, rfl⟩
  obtain ⟨RF, hRF⟩ : ∃ N, rwF cs ks rc rt rs rl = N := ⟨_, rfl⟩
  obtain ⟨RT, hRT⟩ : ∃ N, rwT cs ks rc rt rs rl = N := ⟨_, rfl⟩
  obtain ⟨ZE, hZE⟩ : ∃ N, zrE cs ks rc rt = N := ⟨_, rfl⟩
  obtain ⟨TL, hTL⟩ : ∃ N, zrL cs ks rc rt = N := ⟨_, rfl⟩
  obtain ⟨TH, hTH⟩ : ∃ N, zrH cs ks rc rt = N := ⟨_, rfl⟩
  rw [hRE, hRF, hRT] at H1 HRZ
  rw [hRE, hZE] at HRW
  rw [hZE] at HZV
  rw [hTL, hTH] at HRW HRZ HZV
  obtain ⟨B0, hB0⟩ : ∃ B, fwB cs.length ks.length = B := ⟨_, rfl⟩
  rw [hB0] at HF
  clear hc1 hv1 hv2 hl1 hl2 hRE hRF hRT hZE hTL hTH hB0
  obtain ⟨x0, x1, x2, xlt, xb⟩ := cells3 w #[.slice a1 cs.length c1, .slice a2 ks.length c2] #[.int .i64 rc, .int .i64 rt, .int .i64 rs, .int .i64 rl] #[.int .i64 a, .int .i64 b] 25 53 46 (Below.refl _ _)
  have HNc : Hid ((((w.alloc (.cells #[.slice a1 cs.length c1, .slice a2 ks.length c2] 25)).alloc (.cells #[.int .i64 rc, .int .i64 rt, .int .i64 rs, .int .i64 rl] 53)).alloc (.cells #[.int .i64 a, .int .i64 b] 46)).heap[w.heap.size]? = some (.cells #[.slice a1 cs.length c1, .slice a2 ks.length c2] 25 (0, 0))) := Lib.hid x0
  have HNq : Hid ((((w.alloc (.cells #[.slice a1 cs.length c1, .slice a2 ks.length c2] 25)).alloc (.cells #[.int .i64 rc, .int .i64 rt, .int .i64 rs, .int .i64 rl] 53)).alloc (.cells #[.int .i64 a, .int .i64 b] 46)).heap[w.heap.size + 1]? = some (.cells #[.int .i64 rc, .int .i64 rt, .int .i64 rs, .int .i64 rl] 53 (0, 0))) := Lib.hid x1
  have HNp : Hid ((((w.alloc (.cells #[.slice a1 cs.length c1, .slice a2 ks.length c2] 25)).alloc (.cells #[.int .i64 rc, .int .i64 rt, .int .i64 rs, .int .i64 rl] 53)).alloc (.cells #[.int .i64 a, .int .i64 b] 46)).heap[w.heap.size + 1 + 1]? = some (.cells #[.int .i64 a, .int .i64 b] 46 (0, 0))) := Lib.hid x2
  have HB : Hid (Below w.heap.size w (((w.alloc (.cells #[.slice a1 cs.length c1, .slice a2 ks.length c2] 25)).alloc (.cells #[.int .i64 rc, .int .i64 rt, .int .i64 rs, .int .i64 rl] 53)).alloc (.cells #[.int .i64 a, .int .i64 b] 46))) := Lib.hid xb
  obtain ⟨Z, hZ⟩ : ∃ Z, (((w.alloc (.cells #[.slice a1 cs.length c1, .slice a2 ks.length c2] 25)).alloc (.cells #[.int .i64 rc, .int .i64 rt, .int .i64 rs, .int .i64 rl] 53)).alloc (.cells #[.int .i64 a, .int .i64 b] 46)) = Z := ⟨_, rfl⟩
  rw [hZ] at HB HNc HNq HNp
  have HZ := Lib.hid hZ
  clear hZ xlt xb x0 x1 x2
  go_enter Try.func5, Try.ntmps5
  go_wp2_with fail
  rw [HZ.out]
  refine (HF.out _).mono ?_
  rintro e w1 ⟨rfl, hb⟩
  replace HB := Lib.hid (HB.out.trans (hb.mono HB.out.size))
  replace HNc := Lib.hid ((hb.block _ (Array.getElem?_eq_some_iff.1 HNc.out).1).trans HNc.out)
  replace HNq := Lib.hid ((hb.block _ (Array.getElem?_eq_some_iff.1 HNq.out).1).trans HNq.out)
  replace HNp := Lib.hid ((hb.block _ (Array.getElem?_eq_some_iff.1 HNp.out).1).trans HNp.out)
  clear hb
  cases B0
  · skip
    have zc0 := cellH HNc.out 0
    have zc1 := cellH HNc.out 1
    simp only [List.getElem?_toArray, List.getElem?_cons_zero, List.getElem?_cons_succ] at zc0 zc1
    go_wp2_with fail
    refine (H5.out _).mono ?_
    rintro e w2 ⟨rfl, hb⟩
    clear zc0 zc1
    replace HB := Lib.hid (HB.out.trans (hb.mono HB.out.size))
    replace HNc := Lib.hid ((hb.block _ (Array.getElem?_eq_some_iff.1 HNc.out).1).trans HNc.out)
    replace HNq := Lib.hid ((hb.block _ (Array.getElem?_eq_some_iff.1 HNq.out).1).trans HNq.out)
    replace HNp := Lib.hid ((hb.block _ (Array.getElem?_eq_some_iff.1 HNp.out).1).trans HNp.out)
    clear hb
    go_wp2_with fail
    go_ret
    exact ⟨rfl, HB.out⟩
  have zc0 := cellH HNc.out 0
  have zc1 := cellH HNc.out 1
  have zq0 := cellH HNq.out 0
  have zq1 := cellH HNq.out 1
  have zq2 := cellH HNq.out 2
  have zq3 := cellH HNq.out 3
  simp only [List.getElem?_toArray, List.getElem?_cons_zero, List.getElem?_cons_succ] at zc0 zc1 zq0 zq1 zq2 zq3
  go_wp2_with fail
  refine (H1.out _ HB.out).mono ?_
  rintro e w3 ⟨rfl, hb⟩
  clear zc0 zc1 zq0 zq1 zq2 zq3
  replace HB := Lib.hid (HB.out.trans (hb.mono HB.out.size))
  replace HNc := Lib.hid ((hb.block _ (Array.getElem?_eq_some_iff.1 HNc.out).1).trans HNc.out)
  replace HNq := Lib.hid ((hb.block _ (Array.getElem?_eq_some_iff.1 HNq.out).1).trans HNq.out)
  replace HNp := Lib.hid ((hb.block _ (Array.getElem?_eq_some_iff.1 HNp.out).1).trans HNp.out)
  clear hb
  have hAlc : Below w3.heap.size w3 (w3.alloc (.cells #[.int .i64 RF, .int .i64 RT] 55)) := (Below.refl _ w3).alloc (Nat.le_refl _) _
  have HSk : Hid (w.heap.size ≤ w3.heap.size) := Lib.hid HB.out.size
  have HNk : Hid ((w3.alloc (.cells #[.int .i64 RF, .int .i64 RT] 55)).heap[w3.heap.size]? = some (.cells #[.int .i64 RF, .int .i64 RT] 55 (0, 0))) := Lib.hid (heap_alloc_new _ _)
  replace HB := Lib.hid (HB.out.trans (hAlc.mono HB.out.size))
  have HXc_k : Hid (w.heap.size ≠ w3.heap.size) := Lib.hid (Nat.ne_of_lt (Array.getElem?_eq_some_iff.1 HNc.out).1)
  have HXq_k : Hid (w.heap.size + 1 ≠ w3.heap.size) := Lib.hid (Nat.ne_of_lt (Array.getElem?_eq_some_iff.1 HNq.out).1)
  have HXp_k : Hid (w.heap.size + 1 + 1 ≠ w3.heap.size) := Lib.hid (Nat.ne_of_lt (Array.getElem?_eq_some_iff.1 HNp.out).1)
  replace HNc := Lib.hid ((hAlc.block _ (Array.getElem?_eq_some_iff.1 HNc.out).1).trans HNc.out)
  replace HNq := Lib.hid ((hAlc.block _ (Array.getElem?_eq_some_iff.1 HNq.out).1).trans HNq.out)
  replace HNp := Lib.hid ((hAlc.block _ (Array.getElem?_eq_some_iff.1 HNp.out).1).trans HNp.out)
  obtain ⟨ak, hak⟩ : ∃ qq, w3.alloc (.cells #[.int .i64 RF, .int .i64 RT] 55) = qq := ⟨_, rfl⟩
  obtain ⟨bkk, hbk⟩ : ∃ qq, w3.heap.size = qq := ⟨_, rfl⟩
  rw [hak] at HB HNk HNc HNq HNp
  rw [hbk] at HNk HSk HXc_k HXq_k HXp_k
  clear hAlc
  by_cases hE : RE = 0
  case neg =>
    have gE : (RE != 0) = true := by simpa using hE
    have zc0 := cellH HNc.out 0
    have zc1 := cellH HNc.out 1
    simp only [List.getElem?_toArray, List.getElem?_cons_zero, List.getElem?_cons_succ] at zc0 zc1
    go_wp2_with fail
    try clear hak hbk
    refine (H5.out _).mono ?_
    rintro e w4 ⟨rfl, hb⟩
    clear zc0 zc1
    replace HB := Lib.hid (HB.out.trans (hb.mono HB.out.size))
    replace HNc := Lib.hid ((hb.block _ (Array.getElem?_eq_some_iff.1 HNc.out).1).trans HNc.out)
    replace HNq := Lib.hid ((hb.block _ (Array.getElem?_eq_some_iff.1 HNq.out).1).trans HNq.out)
    replace HNp := Lib.hid ((hb.block _ (Array.getElem?_eq_some_iff.1 HNp.out).1).trans HNp.out)
    replace HNk := Lib.hid ((hb.block _ (Array.getElem?_eq_some_iff.1 HNk.out).1).trans HNk.out)
    clear hb
    go_wp2_with fail
    go_ret
    exact ⟨rfl, HB.out⟩
  obtain ⟨hz0, hs1, hs2, hs3, hs4⟩ := HRW.out hE
  obtain ⟨z, hf, ho, hle, hso⟩ := HRZ.out hE
  have HZ3 := HZV.out hz0
  rw [HZ3] at H2
  have HS1 := Lib.hid hs1
  have HS2 := Lib.hid hs2
  have HS3 := Lib.hid hs3
  have HS4 := Lib.hid hs4
  have HLE := Lib.hid hle
  have HO := Lib.hid ho
  have HFP := Lib.hid hf
  have HSO := Lib.hid hso
  obtain ⟨z0, zx, zy, z3, z4, z5, z6, z7⟩ := z
  simp only at HFP HSO
  subst hE
  clear hz0 hs1 hs2 hs3 hs4 hf ho hle hso HZ3 HZV HRZ HRW
  have hAlc : Below ak.heap.size ak (ak.alloc (.cells #[.int .i64 0, .int .i64 0] 46)) := (Below.refl _ ak).alloc (Nat.le_refl _) _
  have HSfr : Hid (w.heap.size ≤ ak.heap.size) := Lib.hid HB.out.size
  have HNfr : Hid ((ak.alloc (.cells #[.int .i64 0, .int .i64 0] 46)).heap[ak.heap.size]? = some (.cells #[.int .i64 0, .int .i64 0] 46 (0, 0))) := Lib.hid (heap_alloc_new _ _)
  replace HB := Lib.hid (HB.out.trans (hAlc.mono HB.out.size))
  have HXc_fr : Hid (w.heap.size ≠ ak.heap.size) := Lib.hid (Nat.ne_of_lt (Array.getElem?_eq_some_iff.1 HNc.out).1)
  have HXq_fr : Hid (w.heap.size + 1 ≠ ak.heap.size) := Lib.hid (Nat.ne_of_lt (Array.getElem?_eq_some_iff.1 HNq.out).1)
  have HXp_fr : Hid (w.heap.size + 1 + 1 ≠ ak.heap.size) := Lib.hid (Nat.ne_of_lt (Array.getElem?_eq_some_iff.1 HNp.out).1)
  have HXk_fr : Hid (bkk ≠ ak.heap.size) := Lib.hid (Nat.ne_of_lt (Array.getElem?_eq_some_iff.1 HNk.out).1)
  replace HNc := Lib.hid ((hAlc.block _ (Array.getElem?_eq_some_iff.1 HNc.out).1).trans HNc.out)
  replace HNq := Lib.hid ((hAlc.block _ (Array.getElem?_eq_some_iff.1 HNq.out).1).trans HNq.out)
  replace HNp := Lib.hid ((hAlc.block _ (Array.getElem?_eq_some_iff.1 HNp.out).1).trans HNp.out)
  replace HNk := Lib.hid ((hAlc.block _ (Array.getElem?_eq_some_iff.1 HNk.out).1).trans HNk.out)
  obtain ⟨afr, hafr⟩ : ∃ qq, ak.alloc (.cells #[.int .i64 0, .int .i64 0] 46) = qq := ⟨_, rfl⟩
  obtain ⟨bkfr, hbfr⟩ : ∃ qq, ak.heap.size = qq := ⟨_, rfl⟩
  rw [hafr] at HB HNfr HNc HNq HNp HNk
  rw [hbfr] at HNfr HSfr HXc_fr HXq_fr HXp_fr HXk_fr
  clear hAlc
  have zfr0 := cellH HNfr.out 0
  have zfr1 := cellH HNfr.out 1
  simp only [List.getElem?_toArray, List.getElem?_cons_zero, List.getElem?_cons_succ] at zfr0 zfr1
  have zffr := freeH HNfr.out
  replace HNc := Lib.hid ((heap_other afr (bkfr) 0 (.int .i64 (-1)) _ HXc_fr.out).trans HNc.out)
  replace HNq := Lib.hid ((heap_other afr (bkfr) 0 (.int .i64 (-1)) _ HXq_fr.out).trans HNq.out)
  replace HNp := Lib.hid ((heap_other afr (bkfr) 0 (.int .i64 (-1)) _ HXp_fr.out).trans HNp.out)
  replace HNk := Lib.hid ((heap_other afr (bkfr) 0 (.int .i64 (-1)) _ HXk_fr.out).trans HNk.out)
  replace HNfr := Lib.hid (heap_same HNfr.out 0 (.int .i64 (-1)))
  simp only [List.setIfInBounds_toArray, List.set_cons_zero, List.set_cons_succ] at HNfr
  replace HB := Lib.hid (HB.out.setCell (p := ⟨bkfr, 0, none⟩) HSfr.out (.int .i64 (-1)))
  obtain ⟨s5, hs5⟩ : ∃ X, afr.setCell ⟨bkfr, 0, none⟩ (.int .i64 (-1)) = X := ⟨_, rfl⟩
  rw [hs5] at HB HNc HNq HNp HNk HNfr
  have zfr0_5 := cellH HNfr.out 0
  have zfr1_5 := cellH HNfr.out 1
  simp only [List.getElem?_toArray, List.getElem?_cons_zero, List.getElem?_cons_succ] at zfr0_5 zfr1_5
  have zffr_5 := freeH HNfr.out
  replace HNc := Lib.hid ((heap_other s5 (bkfr) 1 (.int .i64 0) _ HXc_fr.out).trans HNc.out)
  replace HNq := Lib.hid ((heap_other s5 (bkfr) 1 (.int .i64 0) _ HXq_fr.out).trans HNq.out)
  replace HNp := Lib.hid ((heap_other s5 (bkfr) 1 (.int .i64 0) _ HXp_fr.out).trans HNp.out)
  replace HNk := Lib.hid ((heap_other s5 (bkfr) 1 (.int .i64 0) _ HXk_fr.out).trans HNk.out)
  replace HNfr := Lib.hid (heap_same HNfr.out 1 (.int .i64 0))
  simp only [List.setIfInBounds_toArray, List.set_cons_zero, List.set_cons_succ] at HNfr
  replace HB := Lib.hid (HB.out.setCell (p := ⟨bkfr, 1, none⟩) HSfr.out (.int .i64 0))
  obtain ⟨s6, hs6⟩ : ∃ X, s5.setCell ⟨bkfr, 1, none⟩ (.int .i64 0) = X := ⟨_, rfl⟩
  rw [hs6] at HB HNc HNq HNp HNk HNfr
  have zc0_6 := cellH HNc.out 0
  have zc1_6 := cellH HNc.out 1
  simp only [List.getElem?_toArray, List.getElem?_cons_zero, List.getElem?_cons_succ] at zc0_6 zc1_6
  go_wp2_with fail
  try clear hak hbk hafr hbfr hs5 hs6
  clear zfr0 zfr1 zffr zfr0_5 zfr1_5 zffr_5 zc0_6 zc1_6
  go_loopw [10] (fun i wr => ∃ (k : Nat), k ≤ cs.length ∧ i = .int .i64 k ∧ Hid (Below w.heap.size w wr) ∧ Hid (wr.heap[w.heap.size]? = some (.cells #[.slice a1 cs.length c1, .slice a2 ks.length c2] 25 (0, 0))) ∧ Hid (wr.heap[w.heap.size + 1]? = some (.cells #[.int .i64 rc, .int .i64 rt, .int .i64 rs, .int .i64 rl] 53 (0, 0))) ∧ Hid (wr.heap[w.heap.size + 1 + 1]? = some (.cells #[.int .i64 a, .int .i64 b] 46 (0, 0))) ∧ Hid (wr.heap[bkk]? = some (.cells #[.int .i64 RF, .int .i64 RT] 55 (0, 0))) ∧ Hid (wr.heap[bkfr]? = some (.cells #[.int .i64 (frP cs rc k).1, .int .i64 (frP cs rc k).2] 46 (0, 0)))) (fun i _ => cs.length - (intOf i).toNat)
  case atStart => exact ⟨0, Nat.zero_le _, rfl, HB, HNc, HNq, HNp, HNk, HNfr⟩
  case round =>
    clear HB HNc HNq HNp HNk HNfr
    obtain ⟨k, hk, rfl, HB, HNc, HNq, HNp, HNk, HNfr⟩ := hrel
    have hn12 := HO.out.n
    by_cases hkl : k < cs.length
    · obtain ⟨b1, off, rfl, hb, hat⟩ := HC1.out k hkl
      obtain ⟨e0, e1, e2, e3, e4, e5, e6, e7⟩ := hat.keep HB.out hb
      have hki : (k : Int) < cs.length := by omega
      have hk0 : (0 : Int) ≤ k := by omega
      have HKL := Lib.hid hkl
      have HST : Hid (frP cs rc (k + 1) = if ((cs.getD k .nil).id == rc) = true then ((cs.getD k .nil).x, (cs.getD k .nil).y) else frP cs rc k) := Lib.hid rfl
      obtain ⟨⟨fx, fy⟩, hP⟩ : ∃ P, frP cs rc k = P := ⟨_, rfl⟩
      rw [hP] at HNfr HST
      simp only at HNfr
      obtain ⟨X, hX⟩ : ∃ X, cs.getD k .nil = X := ⟨_, rfl⟩
      rw [hX] at e0 e1 e2 e3 e4 e5 e6 e7 HST
      obtain ⟨x0, x1, x2, x3, x4, x5, x6, x7⟩ := X
      simp only at e0 e1 e2 e3 e4 e5 e6 e7 HST
      clear hat hb hX hP e3 e4 e5 e6 e7 HSO
      have zc0 := cellH HNc.out 0
      have zc1 := cellH HNc.out 1
      have zq0 := cellH HNq.out 0
      have zq1 := cellH HNq.out 1
      have zq2 := cellH HNq.out 2
      have zq3 := cellH HNq.out 3
      simp only [List.getElem?_toArray, List.getElem?_cons_zero, List.getElem?_cons_succ] at zc0 zc1 zq0 zq1 zq2 zq3
      cases hE : (x0 == rc)
      · have HN2 : Hid (frP cs rc (k + 1) = (fx, fy)) := Lib.hid (by rw [HST.out, hE]; rfl)
        go_wp2_with fail
        go_quiet (fail)
        go_wp2_with fail
        go_roundw
        case rel => exact ⟨k + 1, HKL.out, by go_num, Lib.hid (belowN HB.out _), HNc, HNq, HNp, HNk, Lib.hid (by rw [HN2.out]; exact HNfr.out)⟩
        case measure => have := HKL.out; simp [intOf]; omega
      · have HN2 : Hid (frP cs rc (k + 1) = (x1, x2)) := Lib.hid (by rw [HST.out, hE]; rfl)
        have zfr0_8 := cellH HNfr.out 0
        have zfr1_8 := cellH HNfr.out 1
        simp only [List.getElem?_toArray, List.getElem?_cons_zero, List.getElem?_cons_succ] at zfr0_8 zfr1_8
        have zffr_8 := freeH HNfr.out
        replace HNc := Lib.hid ((heap_other wr (bkfr) 0 (.int .i64 x1) _ HXc_fr.out).trans HNc.out)
        replace HNq := Lib.hid ((heap_other wr (bkfr) 0 (.int .i64 x1) _ HXq_fr.out).trans HNq.out)
        replace HNp := Lib.hid ((heap_other wr (bkfr) 0 (.int .i64 x1) _ HXp_fr.out).trans HNp.out)
        replace HNk := Lib.hid ((heap_other wr (bkfr) 0 (.int .i64 x1) _ HXk_fr.out).trans HNk.out)
        replace HNfr := Lib.hid (heap_same HNfr.out 0 (.int .i64 x1))
        simp only [List.setIfInBounds_toArray, List.set_cons_zero, List.set_cons_succ] at HNfr
        replace HB := Lib.hid (HB.out.setCell (p := ⟨bkfr, 0, none⟩) HSfr.out (.int .i64 x1))
        obtain ⟨s7, hs7⟩ : ∃ X, wr.setCell ⟨bkfr, 0, none⟩ (.int .i64 x1) = X := ⟨_, rfl⟩
        rw [hs7] at HB HNc HNq HNp HNk HNfr
        have zfr0_9 := cellH HNfr.out 0
        have zfr1_9 := cellH HNfr.out 1
        simp only [List.getElem?_toArray, List.getElem?_cons_zero, List.getElem?_cons_succ] at zfr0_9 zfr1_9
        have zffr_9 := freeH HNfr.out
        replace HNc := Lib.hid ((heap_other s7 (bkfr) 1 (.int .i64 x2) _ HXc_fr.out).trans HNc.out)
        replace HNq := Lib.hid ((heap_other s7 (bkfr) 1 (.int .i64 x2) _ HXq_fr.out).trans HNq.out)
        replace HNp := Lib.hid ((heap_other s7 (bkfr) 1 (.int .i64 x2) _ HXp_fr.out).trans HNp.out)
        replace HNk := Lib.hid ((heap_other s7 (bkfr) 1 (.int .i64 x2) _ HXk_fr.out).trans HNk.out)
        replace HNfr := Lib.hid (heap_same HNfr.out 1 (.int .i64 x2))
        simp only [List.setIfInBounds_toArray, List.set_cons_zero, List.set_cons_succ] at HNfr
        replace HB := Lib.hid (HB.out.setCell (p := ⟨bkfr, 1, none⟩) HSfr.out (.int .i64 x2))
        obtain ⟨s8, hs8⟩ : ∃ X, s7.setCell ⟨bkfr, 1, none⟩ (.int .i64 x2) = X := ⟨_, rfl⟩
        rw [hs8] at HB HNc HNq HNp HNk HNfr
        go_wp2_with fail
        go_quiet (fail)
        go_wp2_with fail
        go_roundw
        case rel => exact ⟨k + 1, HKL.out, by go_num, Lib.hid (belowN HB.out _), HNc, HNq, HNp, HNk, Lib.hid (by rw [HN2.out]; exact HNfr.out)⟩
        case measure => have := HKL.out; simp [intOf]; omega
    · obtain rfl : k = cs.length := by omega
      rw [HFP.out] at HNfr
      simp only at HNfr
      clear hkl hk HFP HC1 hn12
      have zc0 := cellH HNc.out 0
      have zc1 := cellH HNc.out 1
      have zq0 := cellH HNq.out 0
      have zq1 := cellH HNq.out 1
      have zq2 := cellH HNq.out 2
      have zq3 := cellH HNq.out 3
      simp only [List.getElem?_toArray, List.getElem?_cons_zero, List.getElem?_cons_succ] at zc0 zc1 zq0 zq1 zq2 zq3
      go_wp2_with fail
      refine (H2.out _ HB.out).mono ?_
      rintro e w9 ⟨rfl, hb⟩
      clear zc0 zc1 zq0 zq1 zq2 zq3
      replace HB := Lib.hid (HB.out.trans (hb.mono HB.out.size))
      replace HNc := Lib.hid ((hb.block _ (Array.getElem?_eq_some_iff.1 HNc.out).1).trans HNc.out)
      replace HNq := Lib.hid ((hb.block _ (Array.getElem?_eq_some_iff.1 HNq.out).1).trans HNq.out)
      replace HNp := Lib.hid ((hb.block _ (Array.getElem?_eq_some_iff.1 HNp.out).1).trans HNp.out)
      replace HNk := Lib.hid ((hb.block _ (Array.getElem?_eq_some_iff.1 HNk.out).1).trans HNk.out)
      replace HNfr := Lib.hid ((hb.block _ (Array.getElem?_eq_some_iff.1 HNfr.out).1).trans HNfr.out)
      clear hb
      have hAlc : Below w9.heap.size w9 (w9.alloc (.cells #[.int .i64 TL, .int .i64 TH] 27)) := (Below.refl _ w9).alloc (Nat.le_refl _) _
      have HSz : Hid (w.heap.size ≤ w9.heap.size) := Lib.hid HB.out.size
      have HNz : Hid ((w9.alloc (.cells #[.int .i64 TL, .int .i64 TH] 27)).heap[w9.heap.size]? = some (.cells #[.int .i64 TL, .int .i64 TH] 27 (0, 0))) := Lib.hid (heap_alloc_new _ _)
      replace HB := Lib.hid (HB.out.trans (hAlc.mono HB.out.size))
      have HXc_z : Hid (w.heap.size ≠ w9.heap.size) := Lib.hid (Nat.ne_of_lt (Array.getElem?_eq_some_iff.1 HNc.out).1)
      have HXq_z : Hid (w.heap.size + 1 ≠ w9.heap.size) := Lib.hid (Nat.ne_of_lt (Array.getElem?_eq_some_iff.1 HNq.out).1)
      have HXp_z : Hid (w.heap.size + 1 + 1 ≠ w9.heap.size) := Lib.hid (Nat.ne_of_lt (Array.getElem?_eq_some_iff.1 HNp.out).1)
      have HXk_z : Hid (bkk ≠ w9.heap.size) := Lib.hid (Nat.ne_of_lt (Array.getElem?_eq_some_iff.1 HNk.out).1)
      have HXfr_z : Hid (bkfr ≠ w9.heap.size) := Lib.hid (Nat.ne_of_lt (Array.getElem?_eq_some_iff.1 HNfr.out).1)
      replace HNc := Lib.hid ((hAlc.block _ (Array.getElem?_eq_some_iff.1 HNc.out).1).trans HNc.out)
      replace HNq := Lib.hid ((hAlc.block _ (Array.getElem?_eq_some_iff.1 HNq.out).1).trans HNq.out)
      replace HNp := Lib.hid ((hAlc.block _ (Array.getElem?_eq_some_iff.1 HNp.out).1).trans HNp.out)
      replace HNk := Lib.hid ((hAlc.block _ (Array.getElem?_eq_some_iff.1 HNk.out).1).trans HNk.out)
      replace HNfr := Lib.hid ((hAlc.block _ (Array.getElem?_eq_some_iff.1 HNfr.out).1).trans HNfr.out)
      obtain ⟨az, haz⟩ : ∃ qq, w9.alloc (.cells #[.int .i64 TL, .int .i64 TH] 27) = qq := ⟨_, rfl⟩
      obtain ⟨bkz, hbz⟩ : ∃ qq, w9.heap.size = qq := ⟨_, rfl⟩
      rw [haz] at HB HNz HNc HNq HNp HNk HNfr
      rw [hbz] at HNz HSz HXc_z HXq_z HXp_z HXk_z HXfr_z
      clear hAlc
      have zz0 := cellH HNz.out 0
      have zz1 := cellH HNz.out 1
      simp only [List.getElem?_toArray, List.getElem?_cons_zero, List.getElem?_cons_succ] at zz0 zz1
      have HLS := Lib.hid (fun w' => Lies_any RF RT zx zy a b w')
      rw [← HSO.out] at HLS
      have HSH := Lib.hid (fun n w' => Shows_any zx zy a b n rl w')
      have HSB : Hid (∀ n, -300 ≤ n → n ≤ 300 → shB zx zy a b n rl = brB zx zy a b ∧ (brB zx zy a b = true → shLo zx zy a b n rl = brUp zx zy a b + n - rl ∧ shHi zx zy a b n rl = brDn zx zy a b + n + rl)) := Lib.hid (fun n h1 h2 => by
        have e1 : shB zx zy a b n rl = brB zx zy a b := by
          unfold shB
          rw [(ci_iff (n := n) (a := -300) (b := 300)).2 ⟨h1, h2⟩, (ci_iff (n := rl) (a := 1) (b := 100)).2 HS2.out]
          simp
        refine ⟨e1, fun hb => ?_⟩
        unfold shLo shHi
        rw [e1, if_pos hb, if_pos hb]
        exact ⟨rfl, rfl⟩)
      have HBD : Hid (brB zx zy a b = true → 0 ≤ brDn zx zy a b ∧ brDn zx zy a b < 3600 ∧ brUp zx zy a b ≤ 3600 ∧ 0 ≤ brUp zx zy a b) := Lib.hid (fun hb => by
        obtain ⟨n1, n2, n3⟩ := br_nx hb
        omega)
      obtain ⟨B, hB⟩ : ∃ N, brB zx zy a b = N := ⟨_, rfl⟩
      obtain ⟨U, hU⟩ : ∃ N, brUp zx zy a b = N := ⟨_, rfl⟩
      obtain ⟨D, hD⟩ : ∃ N, brDn zx zy a b = N := ⟨_, rfl⟩
      rw [hB, hU, hD] at HLS HSB HBD
      obtain ⟨KN, hKN⟩ : ∃ N, (TH - TL + 1).toNat = N := ⟨_, rfl⟩
      rw [hKN] at HLS
      have HKN : Hid ((KN : Int) = TH - TL + 1) := Lib.hid (by have := HLE.out; omega)
      clear hB hU hD hKN HSO
      go_wp2_with fail
      try clear haz hbz
      clear zz0 zz1
      go_loopw [13, 14] (fun so n wr => ∃ (j : Nat), j ≤ KN ∧ so = .bool (so2 B U D rs rl TL j) ∧ n = .int .i64 (TL + (j : Int)) ∧ Hid (Below w.heap.size w wr) ∧ Hid (wr.heap[w.heap.size]? = some (.cells #[.slice a1 cs.length c1, .slice a2 ks.length c2] 25 (0, 0))) ∧ Hid (wr.heap[w.heap.size + 1]? = some (.cells #[.int .i64 rc, .int .i64 rt, .int .i64 rs, .int .i64 rl] 53 (0, 0))) ∧ Hid (wr.heap[w.heap.size + 1 + 1]? = some (.cells #[.int .i64 a, .int .i64 b] 46 (0, 0))) ∧ Hid (wr.heap[bkk]? = some (.cells #[.int .i64 RF, .int .i64 RT] 55 (0, 0))) ∧ Hid (wr.heap[bkfr]? = some (.cells #[.int .i64 zx, .int .i64 zy] 46 (0, 0))) ∧ Hid (wr.heap[bkz]? = some (.cells #[.int .i64 TL, .int .i64 TH] 27 (0, 0)))) (fun _ n _ => (TH + 1 - intOf n).toNat)
      case atStart => exact ⟨0, Nat.zero_le _, rfl, by simp, HB, HNc, HNq, HNp, HNk, HNfr, HNz⟩
      case round =>
        clear HB HNc HNq HNp HNk HNfr HNz
        obtain ⟨j, hj, rfl, rfl, HB, HNc, HNq, HNp, HNk, HNfr, HNz⟩ := hrel
        have hkn := HKN.out
        have hs3 := HS3.out
        have hs4 := HS4.out
        by_cases hjl : j < KN
        · have HST : Hid (so2 B U D rs rl TL (j + 1) = (so2 B U D rs rl TL j || (B && so1 U D rs rl (TL + (j : Int)) 3))) := Lib.hid rfl
          have HJL := Lib.hid hjl
          obtain ⟨N, hN⟩ : ∃ N, TL + (j : Int) = N := ⟨_, rfl⟩
          obtain ⟨S, hS⟩ : ∃ N, so2 B U D rs rl TL j = N := ⟨_, rfl⟩
          rw [hN, hS] at HST
          have HNN : Hid (TL + ((j + 1 : Nat) : Int) = N + 1) := Lib.hid (by omega)
          have hn1 : N ≤ TH := by omega
          have hn2 : -300 ≤ N ∧ N ≤ 300 := by omega
          have HN9 := Lib.hid (show N ≤ TH ∧ -300 ≤ N ∧ N ≤ 300 from ⟨hn1, hn2⟩)
          have HSN := Lib.hid (HSH.out N)
          obtain ⟨q1, q2⟩ := HSB.out N hn2.1 hn2.2
          rw [q1] at HSN
          have HQ := Lib.hid q2
          obtain ⟨LO, hLO⟩ : ∃ N', shLo zx zy a b N rl = N' := ⟨_, rfl⟩
          obtain ⟨HI, hHI⟩ : ∃ N', shHi zx zy a b N rl = N' := ⟨_, rfl⟩
          rw [hLO, hHI] at HSN HQ
          rw [hN, hS]
          clear q1 q2 hLO hHI hjl hj hkn hS hN
          have zq0 := cellH HNq.out 0
          have zq1 := cellH HNq.out 1
          have zq2 := cellH HNq.out 2
          have zq3 := cellH HNq.out 3
          have zp0 := cellH HNp.out 0
          have zp1 := cellH HNp.out 1
          have zfr0 := cellH HNfr.out 0
          have zfr1 := cellH HNfr.out 1
          have zz0 := cellH HNz.out 0
          have zz1 := cellH HNz.out 1
          simp only [List.getElem?_toArray, List.getElem?_cons_zero, List.getElem?_cons_succ] at zq0 zq1 zq2 zq3 zp0 zp1 zfr0 zfr1 zz0 zz1
          go_wp2_with fail
          refine (HSN.out _).mono ?_
          rintro e w10 ⟨rfl, hb⟩
          clear zq0 zq1 zq2 zq3 zp0 zp1 zfr0 zfr1 zz0 zz1
          replace HB := Lib.hid (HB.out.trans (hb.mono HB.out.size))
          replace HNc := Lib.hid ((hb.block _ (Array.getElem?_eq_some_iff.1 HNc.out).1).trans HNc.out)
          replace HNq := Lib.hid ((hb.block _ (Array.getElem?_eq_some_iff.1 HNq.out).1).trans HNq.out)
          replace HNp := Lib.hid ((hb.block _ (Array.getElem?_eq_some_iff.1 HNp.out).1).trans HNp.out)
          replace HNk := Lib.hid ((hb.block _ (Array.getElem?_eq_some_iff.1 HNk.out).1).trans HNk.out)
          replace HNfr := Lib.hid ((hb.block _ (Array.getElem?_eq_some_iff.1 HNfr.out).1).trans HNfr.out)
          replace HNz := Lib.hid ((hb.block _ (Array.getElem?_eq_some_iff.1 HNz.out).1).trans HNz.out)
          clear hb
          have hAlc : Below w10.heap.size w10 (w10.alloc (.cells #[.int .i64 LO, .int .i64 HI] 27)) := (Below.refl _ w10).alloc (Nat.le_refl _) _
          have HSsh : Hid (w.heap.size ≤ w10.heap.size) := Lib.hid HB.out.size
          have HNsh : Hid ((w10.alloc (.cells #[.int .i64 LO, .int .i64 HI] 27)).heap[w10.heap.size]? = some (.cells #[.int .i64 LO, .int .i64 HI] 27 (0, 0))) := Lib.hid (heap_alloc_new _ _)
          replace HB := Lib.hid (HB.out.trans (hAlc.mono HB.out.size))
          have HXc_sh : Hid (w.heap.size ≠ w10.heap.size) := Lib.hid (Nat.ne_of_lt (Array.getElem?_eq_some_iff.1 HNc.out).1)
          have HXq_sh : Hid (w.heap.size + 1 ≠ w10.heap.size) := Lib.hid (Nat.ne_of_lt (Array.getElem?_eq_some_iff.1 HNq.out).1)
          have HXp_sh : Hid (w.heap.size + 1 + 1 ≠ w10.heap.size) := Lib.hid (Nat.ne_of_lt (Array.getElem?_eq_some_iff.1 HNp.out).1)
          have HXk_sh : Hid (bkk ≠ w10.heap.size) := Lib.hid (Nat.ne_of_lt (Array.getElem?_eq_some_iff.1 HNk.out).1)
          have HXfr_sh : Hid (bkfr ≠ w10.heap.size) := Lib.hid (Nat.ne_of_lt (Array.getElem?_eq_some_iff.1 HNfr.out).1)
          have HXz_sh : Hid (bkz ≠ w10.heap.size) := Lib.hid (Nat.ne_of_lt (Array.getElem?_eq_some_iff.1 HNz.out).1)
          replace HNc := Lib.hid ((hAlc.block _ (Array.getElem?_eq_some_iff.1 HNc.out).1).trans HNc.out)
          replace HNq := Lib.hid ((hAlc.block _ (Array.getElem?_eq_some_iff.1 HNq.out).1).trans HNq.out)
          replace HNp := Lib.hid ((hAlc.block _ (Array.getElem?_eq_some_iff.1 HNp.out).1).trans HNp.out)
          replace HNk := Lib.hid ((hAlc.block _ (Array.getElem?_eq_some_iff.1 HNk.out).1).trans HNk.out)
          replace HNfr := Lib.hid ((hAlc.block _ (Array.getElem?_eq_some_iff.1 HNfr.out).1).trans HNfr.out)
          replace HNz := Lib.hid ((hAlc.block _ (Array.getElem?_eq_some_iff.1 HNz.out).1).trans HNz.out)
          obtain ⟨ash, hash⟩ : ∃ qq, w10.alloc (.cells #[.int .i64 LO, .int .i64 HI] 27) = qq := ⟨_, rfl⟩
          obtain ⟨bksh, hbsh⟩ : ∃ qq, w10.heap.size = qq := ⟨_, rfl⟩
          rw [hash] at HB HNsh HNc HNq HNp HNk HNfr HNz
          rw [hbsh] at HNsh HSsh HXc_sh HXq_sh HXp_sh HXk_sh HXfr_sh HXz_sh
          clear hAlc
          have zq0 := cellH HNq.out 0
          have zq1 := cellH HNq.out 1
          have zq2 := cellH HNq.out 2
          have zq3 := cellH HNq.out 3
          simp only [List.getElem?_toArray, List.getElem?_cons_zero, List.getElem?_cons_succ] at zq0 zq1 zq2 zq3
          go_wp2_with fail
          try clear hash hbsh
          clear zq0 zq1 zq2 zq3
          go_loopw [13, 17] (fun so kk wr => ∃ (i : Nat), i ≤ 3 ∧ (0 < i → B = true) ∧ so = .bool (S || so1 U D rs rl N i) ∧ kk = .int .i64 ((i : Int) - 1) ∧ Hid (Below w.heap.size w wr) ∧ Hid (wr.heap[w.heap.size]? = some (.cells #[.slice a1 cs.length c1, .slice a2 ks.length c2] 25 (0, 0))) ∧ Hid (wr.heap[w.heap.size + 1]? = some (.cells #[.int .i64 rc, .int .i64 rt, .int .i64 rs, .int .i64 rl] 53 (0, 0))) ∧ Hid (wr.heap[w.heap.size + 1 + 1]? = some (.cells #[.int .i64 a, .int .i64 b] 46 (0, 0))) ∧ Hid (wr.heap[bkk]? = some (.cells #[.int .i64 RF, .int .i64 RT] 55 (0, 0))) ∧ Hid (wr.heap[bkfr]? = some (.cells #[.int .i64 zx, .int .i64 zy] 46 (0, 0))) ∧ Hid (wr.heap[bkz]? = some (.cells #[.int .i64 TL, .int .i64 TH] 27 (0, 0))) ∧ Hid (wr.heap[bksh]? = some (.cells #[.int .i64 LO, .int .i64 HI] 27 (0, 0)))) (fun _ kk _ => (2 - intOf kk).toNat)
          case atStart => exact ⟨0, by omega, (fun h => by omega), (by rw [show so1 U D rs rl N 0 = false from rfl, Bool.or_false]), by simp, HB, HNc, HNq, HNp, HNk, HNfr, HNz, HNsh⟩
          case round =>
            clear HB HNc HNq HNp HNk HNfr HNz HNsh
            obtain ⟨i, hi, hiB, rfl, rfl, HB, HNc, HNq, HNp, HNk, HNfr, HNz, HNsh⟩ := hrel
            cases B
            · obtain rfl : i = 0 := by
                rcases Nat.eq_zero_or_pos i with h | h
                · exact h
                · exact absurd (hiB h) (by decide)
              have HN2 : Hid (so2 false U D rs rl TL (j + 1) = (S || so1 U D rs rl N 0)) := Lib.hid (by rw [HST.out]; rfl)
              obtain ⟨S2, hS2⟩ : ∃ N', (S || so1 U D rs rl N 0) = N' := ⟨_, rfl⟩
              rw [hS2] at HN2 ⊢
              obtain ⟨hn1, hn2⟩ := HN9.out
              clear hS2
              go_wp2_with fail
              go_roundw
              case rel => exact ⟨j + 1, HJL.out, by rw [HN2.out], by rw [HNN.out], HB, HNc, HNq, HNp, HNk, HNfr, HNz⟩
              case measure => simp [intOf]; omega
            by_cases hi3 : i < 3
            · have HIL := Lib.hid hi3
              obtain ⟨K, hK⟩ : ∃ K, (i : Int) - 1 = K := ⟨_, rfl⟩
              have hk1 : -1 ≤ K ∧ K ≤ 1 := by omega
              have HKN2 : Hid (((i + 1 : Nat) : Int) - 1 = K + 1) := Lib.hid (by omega)
              obtain ⟨e1, e2⟩ := HQ.out rfl
              have hbd := HBD.out rfl
              have hs1 := HS1.out
              have hs2 := HS2.out
              have HIN : Hid (so1 U D rs rl N (i + 1) = (so1 U D rs rl N i || (decide (LO ≤ rs + K * 3600) && decide (rs + K * 3600 ≤ HI)))) := Lib.hid (by rw [e1, e2, ← hK]; rfl)
              have HI9 := Lib.hid hk1
              rw [hK]
              obtain ⟨SH, hSH⟩ : ∃ q, rs + K * 3600 = q := ⟨_, rfl⟩
              rw [hSH] at HIN
              obtain ⟨S1, hS1⟩ : ∃ q, so1 U D rs rl N i = q := ⟨_, rfl⟩
              rw [hS1] at HIN ⊢
              have w1 : IntKind.i64.wrap (K * 3600) = K * 3600 := IntWalk.i64_in _ (by omega)
              have w2 : IntKind.i64.wrap (rs + K * 3600) = SH := by rw [hSH]; exact IntWalk.i64_in _ (by omega)
              have HSL : Hid (SH = rs + K * 3600) := Lib.hid hSH.symm
              clear hSH hS1 hK e1 e2 hbd hs1 hs2
              have zq0 := cellH HNq.out 0
              have zq1 := cellH HNq.out 1
              have zq2 := cellH HNq.out 2
              have zq3 := cellH HNq.out 3
              have zsh0 := cellH HNsh.out 0
              have zsh1 := cellH HNsh.out 1
              simp only [List.getElem?_toArray, List.getElem?_cons_zero, List.getElem?_cons_succ] at zq0 zq1 zq2 zq3 zsh0 zsh1
              cases S
              · cases S1
                · by_cases h1 : LO ≤ SH
                  · by_cases h2 : SH ≤ HI
                    · skip
                      go_wp2_with fail
                      go_roundw
                      case rel => exact ⟨i + 1, HIL.out, (fun _ => by first | trivial | rfl), by rw [HIN.out]; simp [h1, h2], by rw [HKN2.out], HB, HNc, HNq, HNp, HNk, HNfr, HNz, HNsh⟩
                      case measure => simp [intOf]; omega
                    · skip
                      go_wp2_with fail
                      go_roundw
                      case rel => exact ⟨i + 1, HIL.out, (fun _ => by first | trivial | rfl), by rw [HIN.out]; simp [h1, h2], by rw [HKN2.out], HB, HNc, HNq, HNp, HNk, HNfr, HNz, HNsh⟩
                      case measure => simp [intOf]; omega
                  · skip
                    go_wp2_with fail
                    go_roundw
                    case rel => exact ⟨i + 1, HIL.out, (fun _ => by first | trivial | rfl), by rw [HIN.out]; simp [h1], by rw [HKN2.out], HB, HNc, HNq, HNp, HNk, HNfr, HNz, HNsh⟩
                    case measure => simp [intOf]; omega
                · skip
                  go_wp2_with fail
                  go_roundw
                  case rel => exact ⟨i + 1, HIL.out, (fun _ => by first | trivial | rfl), by rw [HIN.out]; simp, by rw [HKN2.out], HB, HNc, HNq, HNp, HNk, HNfr, HNz, HNsh⟩
                  case measure => simp [intOf]; omega
              · skip
                go_wp2_with fail
                go_roundw
                case rel => exact ⟨i + 1, HIL.out, (fun _ => by first | trivial | rfl), by rw [HIN.out]; simp, by rw [HKN2.out], HB, HNc, HNq, HNp, HNk, HNfr, HNz, HNsh⟩
                case measure => simp [intOf]; omega
            · obtain rfl : i = 3 := by omega
              have HN2 : Hid (so2 true U D rs rl TL (j + 1) = (S || so1 U D rs rl N 3)) := Lib.hid (by rw [HST.out, Bool.true_and])
              obtain ⟨S2, hS2⟩ : ∃ N', (S || so1 U D rs rl N 3) = N' := ⟨_, rfl⟩
              rw [hS2] at HN2 ⊢
              obtain ⟨hn1, hn2⟩ := HN9.out
              clear hS2
              go_wp2_with fail
              go_roundw
              case rel => exact ⟨j + 1, HJL.out, by rw [HN2.out], by rw [HNN.out], HB, HNc, HNq, HNp, HNk, HNfr, HNz⟩
              case measure => simp [intOf]; omega
        · obtain rfl : j = KN := by omega
          have hj1 : ¬ TL + (j : Int) ≤ TH := by omega
          obtain ⟨LB, hLB⟩ : ∃ N, so2 B U D rs rl TL j = N := ⟨_, rfl⟩
          rw [hLB] at HLS ⊢
          obtain ⟨N, hN⟩ : ∃ N, TL + (j : Int) = N := ⟨_, rfl⟩
          rw [hN] at hj1 ⊢
          clear hLB hjl hj hkn hN
          have zz0 := cellH HNz.out 0
          have zz1 := cellH HNz.out 1
          simp only [List.getElem?_toArray, List.getElem?_cons_zero, List.getElem?_cons_succ] at zz0 zz1
          go_wp2_with fail
          refine (H5.out _).mono ?_
          rintro e w11 ⟨rfl, hb⟩
          clear zz0 zz1
          replace HB := Lib.hid (HB.out.trans (hb.mono HB.out.size))
          replace HNc := Lib.hid ((hb.block _ (Array.getElem?_eq_some_iff.1 HNc.out).1).trans HNc.out)
          replace HNq := Lib.hid ((hb.block _ (Array.getElem?_eq_some_iff.1 HNq.out).1).trans HNq.out)
          replace HNp := Lib.hid ((hb.block _ (Array.getElem?_eq_some_iff.1 HNp.out).1).trans HNp.out)
          replace HNk := Lib.hid ((hb.block _ (Array.getElem?_eq_some_iff.1 HNk.out).1).trans HNk.out)
          replace HNfr := Lib.hid ((hb.block _ (Array.getElem?_eq_some_iff.1 HNfr.out).1).trans HNfr.out)
          replace HNz := Lib.hid ((hb.block _ (Array.getElem?_eq_some_iff.1 HNz.out).1).trans HNz.out)
          clear hb
          have zp0 := cellH HNp.out 0
          have zp1 := cellH HNp.out 1
          have zk0 := cellH HNk.out 0
          have zk1 := cellH HNk.out 1
          have zfr0 := cellH HNfr.out 0
          have zfr1 := cellH HNfr.out 1
          simp only [List.getElem?_toArray, List.getElem?_cons_zero, List.getElem?_cons_succ] at zp0 zp1 zk0 zk1 zfr0 zfr1
          go_wp2_with fail
          refine (HLS.out _).mono ?_
          rintro e w12 ⟨rfl, hb⟩
          clear zp0 zp1 zk0 zk1 zfr0 zfr1
          replace HB := Lib.hid (HB.out.trans (hb.mono HB.out.size))
          replace HNc := Lib.hid ((hb.block _ (Array.getElem?_eq_some_iff.1 HNc.out).1).trans HNc.out)
          replace HNq := Lib.hid ((hb.block _ (Array.getElem?_eq_some_iff.1 HNq.out).1).trans HNq.out)
          replace HNp := Lib.hid ((hb.block _ (Array.getElem?_eq_some_iff.1 HNp.out).1).trans HNp.out)
          replace HNk := Lib.hid ((hb.block _ (Array.getElem?_eq_some_iff.1 HNk.out).1).trans HNk.out)
          replace HNfr := Lib.hid ((hb.block _ (Array.getElem?_eq_some_iff.1 HNfr.out).1).trans HNfr.out)
          replace HNz := Lib.hid ((hb.block _ (Array.getElem?_eq_some_iff.1 HNz.out).1).trans HNz.out)
          clear hb
          cases LB
          · go_wp2_with fail
            go_ret
            exact ⟨rfl, HB.out⟩
          · go_wp2_with fail
            go_ret
            exact ⟨rfl, HB.out⟩
end Go.Proofs.Ytebdboacmeafaaa
