/- Package firetowerref05: find for any length, SameZeros, Fits. -/
import Derived.Test.YtebdboacmeafaaaGreatCI7
import Derived.Test.YtebdboacmeafaaaGreatCF7
import Derived.Test.YtebdboacmeafaaaGreatCG6
set_option linter.unusedVariables false
set_option linter.unusedSimpArgs false
namespace Go.Proofs.YtebdboacmeafaaaGreat
open Go Go.RowKit

set_option maxRecDepth 100000 in
set_option maxHeartbeats 8000000 in
theorem pfind_big (v v2 : Value) (l : List Ci) (id : Int) (w : World) (hv : CiRow w v l) (hl : l.length ≤ 9223372036854775807) :
    Calls Tryz.prog 65 #[.agg #[v, v2], .int .i64 id] w fun e w' => e = .returned (.tuple #[((ciF l id).getD .nil).val, .bool (ciF l id).isSome]) ∧ Below w.heap.size w w' := by
  obtain ⟨a, cap, rfl, hc⟩ := hv.form
  have HC := Lib.hid hc
  have HLL := Lib.hid hl
  clear hc hv
  have HHIT := Lib.hid (fun k hk => ciF_hit (l := l) (id := id) (k := k) hk)
  have HMISS := Lib.hid (ciF_miss (l := l) (id := id))
  obtain ⟨R, hR⟩ : ∃ R, ciF l id = R := ⟨_, rfl⟩
  rw [hR] at HHIT HMISS ⊢
  clear hR
  obtain ⟨x0, x1, xlt, xb⟩ := two_cells w #[.slice a l.length cap, v2] #[.int .i64 0, .int .i64 0, .int .i64 0, .int .i64 0, .int .i64 0, .int .i64 0, .int .i64 0, .int .i64 0] 25 93 (Below.refl _ _)
  have HNc : Hid (((w.alloc (.cells #[.slice a l.length cap, v2] 25)).alloc (.cells #[.int .i64 0, .int .i64 0, .int .i64 0, .int .i64 0, .int .i64 0, .int .i64 0, .int .i64 0, .int .i64 0] 93)).heap[w.heap.size]? = some (.cells #[.slice a l.length cap, v2] 25 (0, 0))) := Lib.hid x0
  have HNr : Hid (((w.alloc (.cells #[.slice a l.length cap, v2] 25)).alloc (.cells #[.int .i64 0, .int .i64 0, .int .i64 0, .int .i64 0, .int .i64 0, .int .i64 0, .int .i64 0, .int .i64 0] 93)).heap[w.heap.size + 1]? = some (.cells #[.int .i64 0, .int .i64 0, .int .i64 0, .int .i64 0, .int .i64 0, .int .i64 0, .int .i64 0, .int .i64 0] 93 (0, 0))) := Lib.hid x1
  have HB : Hid (Below w.heap.size w ((w.alloc (.cells #[.slice a l.length cap, v2] 25)).alloc (.cells #[.int .i64 0, .int .i64 0, .int .i64 0, .int .i64 0, .int .i64 0, .int .i64 0, .int .i64 0, .int .i64 0] 93))) := Lib.hid xb
  obtain ⟨Z, hZ⟩ : ∃ Z, ((w.alloc (.cells #[.slice a l.length cap, v2] 25)).alloc (.cells #[.int .i64 0, .int .i64 0, .int .i64 0, .int .i64 0, .int .i64 0, .int .i64 0, .int .i64 0, .int .i64 0] 93)) = Z := ⟨_, rfl⟩
  rw [hZ] at HB HNc HNr
  have HZ := Lib.hid hZ
  clear hZ xlt xb x0 x1
  go_enter Tryz.func65, Tryz.ntmps65
  go_wp2_with fail
  rw [HZ.out]
  go_loopw [6] (fun i wr => ∃ (k : Nat), k ≤ l.length ∧ i = .int .i64 k ∧ Hid (∀ j, j < k → ((l.getD j .nil).id == id) = false) ∧ Hid (Below w.heap.size w wr) ∧ Hid (wr.heap[w.heap.size]? = some (.cells #[.slice a l.length cap, v2] 25 (0, 0))) ∧ Hid (wr.heap[w.heap.size + 1]? = some (.cells #[.int .i64 0, .int .i64 0, .int .i64 0, .int .i64 0, .int .i64 0, .int .i64 0, .int .i64 0, .int .i64 0] 93 (0, 0)))) (fun i _ => l.length - (intOf i).toNat)
  case atStart => exact ⟨0, Nat.zero_le _, rfl, Lib.hid (fun j hj => by omega), HB, HNc, HNr⟩
  case round =>
    clear HB HNc HNr
    obtain ⟨k, hk, rfl, hN, HB, HNc, HNr⟩ := hrel
    have zc0 := cellH HNc.out 0
    have zc1 := cellH HNc.out 1
    simp only [List.getElem?_toArray, List.getElem?_cons_zero, List.getElem?_cons_succ] at zc0 zc1
    by_cases hkl : k < l.length
    · obtain ⟨b, off, rfl, hb, hat⟩ := HC.out k hkl
      obtain ⟨e0, e1, e2, e3, e4, e5, e6, e7⟩ := hat.keep HB.out hb
      have hki : (k : Int) < l.length := by omega
      have hk0 : (0 : Int) ≤ k := by omega
      have HH := Lib.hid (HHIT.out k hkl hN.out)
      have HNX : Hid (((l.getD k .nil).id == id) = false → ∀ j, j < k + 1 → ((l.getD j .nil).id == id) = false) := Lib.hid (fun h j hj => by
        by_cases e : j = k
        · subst e; exact h
        · exact hN.out j (by omega))
      obtain ⟨X, hX⟩ : ∃ X, l.getD k .nil = X := ⟨_, rfl⟩
      rw [hX] at HH HNX e0 e1 e2 e3 e4 e5 e6 e7
      obtain ⟨a0, a1, a2, a3, a4, a5, a6, a7⟩ := X
      simp only at e0 e1 e2 e3 e4 e5 e6 e7 HH HNX
      have HKL := Lib.hid hkl
      clear hat hb hX
      cases hE : (a0 == id)
      · have HN2 := Lib.hid (HNX.out hE)
        go_wp2_with fail
        go_roundw
        case rel => exact ⟨k + 1, HKL.out, by go_num, HN2, HB, HNc, HNr⟩
        case measure => have := HKL.out; simp [intOf]; omega
      · have HR := Lib.hid (HH.out hE)
        have zr0_2 := cellH HNr.out 0
        have zr1_2 := cellH HNr.out 1
        have zr2_2 := cellH HNr.out 2
        have zr3_2 := cellH HNr.out 3
        have zr4_2 := cellH HNr.out 4
        have zr5_2 := cellH HNr.out 5
        have zr6_2 := cellH HNr.out 6
        have zr7_2 := cellH HNr.out 7
        simp only [List.getElem?_toArray, List.getElem?_cons_zero, List.getElem?_cons_succ] at zr0_2 zr1_2 zr2_2 zr3_2 zr4_2 zr5_2 zr6_2 zr7_2
        have zfr_2 := freeH HNr.out
        go_wp2_with fail
        obtain ⟨z1, z2⟩ := set8 HNr.out HB.out (by omega) (.int .i64 a0) (.int .i64 a1) (.int .i64 a2) (.int .i64 a3) (.int .i64 a4) (.int .i64 a5) (.int .i64 a6) (.int .i64 a7)
        refine bodyPost_ret (res_ct Tryz.results65 _ _ (w.heap.size + 1) 93 #[.int .i64 a0, .int .i64 a1, .int .i64 a2, .int .i64 a3, .int .i64 a4, .int .i64 a5, .int .i64 a6, .int .i64 a7] (0, 0) _ rfl z1 Tryz.underlying93 rfl info_ci8) rfl ?_
        exact ⟨by rw [HR.out]; rfl, z2⟩
    · obtain rfl : k = l.length := by omega
      have HR := Lib.hid (HMISS.out hN.out)
      have zr0_3 := cellH HNr.out 0
      have zr1_3 := cellH HNr.out 1
      have zr2_3 := cellH HNr.out 2
      have zr3_3 := cellH HNr.out 3
      have zr4_3 := cellH HNr.out 4
      have zr5_3 := cellH HNr.out 5
      have zr6_3 := cellH HNr.out 6
      have zr7_3 := cellH HNr.out 7
      simp only [List.getElem?_toArray, List.getElem?_cons_zero, List.getElem?_cons_succ] at zr0_3 zr1_3 zr2_3 zr3_3 zr4_3 zr5_3 zr6_3 zr7_3
      have zfr_3 := freeH HNr.out
      go_wp2_with fail
      obtain ⟨z1, z2⟩ := set8 HNr.out HB.out (by omega) (.int .i64 0) (.int .i64 0) (.int .i64 0) (.int .i64 0) (.int .i64 0) (.int .i64 0) (.int .i64 0) (.int .i64 0)
      refine bodyPost_ret (res_ct Tryz.results65 _ _ (w.heap.size + 1) 93 #[.int .i64 0, .int .i64 0, .int .i64 0, .int .i64 0, .int .i64 0, .int .i64 0, .int .i64 0, .int .i64 0] (0, 0) _ rfl z1 Tryz.underlying93 rfl info_ci8) rfl ?_
      exact ⟨by rw [HR.out]; rfl, z2⟩
set_option maxRecDepth 100000 in
set_option maxHeartbeats 8000000 in
theorem pSameZeros_any (v u : Value) (a b c d : Int) (l m : List Int) (w : World) (hv : INRow w v l) (hu : INRow w u m) (hl : l.length ≤ 1000000) (hm : m.length ≤ 1000000) :
    Calls Tryz.prog 20 #[.agg #[.int .i64 a, .int .i64 b, v], .agg #[.int .i64 c, .int .i64 d, u]] w fun e w' => e = .returned (.bool (decide (l = m) && (a == c) && (b == d))) ∧ Below w.heap.size w w' := by
  obtain ⟨va, vc, rfl, _⟩ := hv.form
  obtain ⟨ua, uc, rfl, _⟩ := hu.form
  have HS := Lib.hid (fun w' (h : Below w.heap.size w w') => pSameInts_any (.slice va l.length vc) (.slice ua m.length uc) l m w' (INRow.keep hv h) (INRow.keep hu h) hl hm)
  obtain ⟨B, hB⟩ : ∃ q, decide (l = m) = q := ⟨_, rfl⟩
  rw [hB] at HS ⊢
  obtain ⟨n1, hn1⟩ : ∃ q, l.length = q := ⟨_, rfl⟩
  obtain ⟨n2, hn2⟩ : ∃ q, m.length = q := ⟨_, rfl⟩
  rw [hn1, hn2] at HS ⊢
  clear hv hu hl hm hB hn1 hn2
  obtain ⟨x0, x1, xlt, xb⟩ := two_cells w #[.int .i64 a, .int .i64 b, .slice va n1 vc] #[.int .i64 c, .int .i64 d, .slice ua n2 uc] 38 38 (Below.refl _ _)
  have HNp : Hid (((w.alloc (.cells #[.int .i64 a, .int .i64 b, .slice va n1 vc] 38)).alloc (.cells #[.int .i64 c, .int .i64 d, .slice ua n2 uc] 38)).heap[w.heap.size]? = some (.cells #[.int .i64 a, .int .i64 b, .slice va n1 vc] 38 (0, 0))) := Lib.hid x0
  have HNq : Hid (((w.alloc (.cells #[.int .i64 a, .int .i64 b, .slice va n1 vc] 38)).alloc (.cells #[.int .i64 c, .int .i64 d, .slice ua n2 uc] 38)).heap[w.heap.size + 1]? = some (.cells #[.int .i64 c, .int .i64 d, .slice ua n2 uc] 38 (0, 0))) := Lib.hid x1
  have HB : Hid (Below w.heap.size w ((w.alloc (.cells #[.int .i64 a, .int .i64 b, .slice va n1 vc] 38)).alloc (.cells #[.int .i64 c, .int .i64 d, .slice ua n2 uc] 38))) := Lib.hid xb
  obtain ⟨Z, hZ⟩ : ∃ Z, ((w.alloc (.cells #[.int .i64 a, .int .i64 b, .slice va n1 vc] 38)).alloc (.cells #[.int .i64 c, .int .i64 d, .slice ua n2 uc] 38)) = Z := ⟨_, rfl⟩
  rw [hZ] at HB HNp HNq
  have HZ := Lib.hid hZ
  clear hZ xlt xb x0 x1
  go_enter Tryz.func20, Tryz.ntmps20
  have zp0 := cellH HNp.out 0
  have zp1 := cellH HNp.out 1
  have zp2 := cellH HNp.out 2
  have zq0 := cellH HNq.out 0
  have zq1 := cellH HNq.out 1
  have zq2 := cellH HNq.out 2
  simp only [List.getElem?_toArray, List.getElem?_cons_zero, List.getElem?_cons_succ] at zp0 zp1 zp2 zq0 zq1 zq2
  go_wp2_with fail
  rw [HZ.out]
  refine (HS.out _ HB.out).mono ?_
  rintro e w1 ⟨rfl, hb⟩
  clear zp0 zp1 zp2 zq0 zq1 zq2
  replace HB := Lib.hid (HB.out.trans (hb.mono HB.out.size))
  replace HNp := Lib.hid ((hb.block _ (Array.getElem?_eq_some_iff.1 HNp.out).1).trans HNp.out)
  replace HNq := Lib.hid ((hb.block _ (Array.getElem?_eq_some_iff.1 HNq.out).1).trans HNq.out)
  clear hb
  have zp0 := cellH HNp.out 0
  have zp1 := cellH HNp.out 1
  have zp2 := cellH HNp.out 2
  have zq0 := cellH HNq.out 0
  have zq1 := cellH HNq.out 1
  have zq2 := cellH HNq.out 2
  simp only [List.getElem?_toArray, List.getElem?_cons_zero, List.getElem?_cons_succ] at zp0 zp1 zp2 zq0 zq1 zq2
  cases B
  · go_wp2_with fail
    go_ret
    exact ⟨rfl, HB.out⟩
  cases g1 : (a == c)
  · go_wp2_with fail
    go_ret
    exact ⟨by simp [g1], HB.out⟩
  cases g2 : (b == d)
  · go_wp2_with fail
    go_ret
    exact ⟨by simp [g1, g2], HB.out⟩
  go_wp2_with fail
  go_ret
  exact ⟨by simp [g1, g2], HB.out⟩
theorem fi_split {dr : Int} {L : List Th} {zt : Int} {zl : List Int} {i : Nat} {T SL SH : Int} (hT : zt + (i : Int) = T) (hL : spLo dr L T = SL) (hH : spHi dr L T = SH) : fiB dr L zt zl i = (ciB (zl.getD i 0) SL SH && (List.range i).all fun k => ciB (zl.getD i 0 - zl.getD k 0) (-(frI dr (zt + k) T)) (frI dr (zt + k) T)) := by
  unfold fiB
  rw [hT, hL, hH]
  congr 1
  apply congrArg (fun f => (List.range i).all f)
  funext k
  unfold ciB
  rw [Bool.eq_iff_iff, decide_eq_true_eq, Bool.and_eq_true, decide_eq_true_eq, decide_eq_true_eq]
  omega
theorem all_rg (f : Nat → Bool) (m : Nat) : (List.range (m + 1)).all f = ((List.range m).all f && f m) := by
  rw [List.range_succ, List.all_append]; simp
theorem all_stop {f : Nat → Bool} {m i : Nat} {C : Bool} (hm : m ≤ i) (h : (C && (List.range m).all f) = false) : (C && (List.range i).all f) = false := by
  cases C
  · rfl
  · rw [Bool.true_and] at h ⊢
    rw [List.all_eq_false] at h ⊢
    obtain ⟨x, hx, hf⟩ := h
    exact ⟨x, List.mem_range.2 (Nat.lt_of_lt_of_le (List.mem_range.1 hx) hm), hf⟩
theorem gl_ct {cs : List Ci} {ks : List Ck} (ho : CcOk cs ks) (z : Ci) : (0 < (gAll z.dr (thL z ks) (thL z ks).length).length → ctB z.dr (dlL z ks) = true) ∧ (¬ 0 < (gAll z.dr (thL z ks) (thL z ks).length).length → ctB z.dr (dlL z ks) = false) := by
  rw [gAll_eq ho]
  unfold ctB
  cases hl : clL z.dr (dlL z ks) <;> simp
set_option maxRecDepth 100000 in
set_option maxHeartbeats 8000000 in
theorem pFits_any (v1 v2 zv : Value) (cs : List Ci) (ks : List Ck) (zc zt : Int) (zl : List Int) (w : World) (hv1 : CiRow w v1 cs) (hv2 : CkRow w v2 ks) (hz : INRow w zv zl) (hl1 : cs.length ≤ 9223372036854775807) (hl2 : ks.length ≤ 9223372036854775807) (hzl : zl.length ≤ 9223372036854775807) (hzt : -9223372036854775808 ≤ zt ∧ zt ≤ 9223372036854775807) :
    Calls Tryz.prog 19 #[.agg #[v1, v2], .agg #[.int .i64 zc, .int .i64 zt, zv]] w fun e w' => e = .returned (.tuple #[.int .i64 (ftR cs ks zc zt zl).1, .bool (ftR cs ks zc zt zl).2]) ∧ Below w.heap.size w w' := by
  obtain ⟨a1, c1, rfl, _⟩ := hv1.form
  obtain ⟨a2, c2, rfl, _⟩ := hv2.form
  obtain ⟨za, zcp, rfl, hcz⟩ := hz.form
  have HCZ := Lib.hid hcz
  have HZL := Lib.hid hzl
  have HZT := Lib.hid hzt
  have HCH := Lib.hid (fun w' (h : Below w.heap.size w w') => pCheck_any (.slice a1 cs.length c1) (.slice a2 ks.length c2) cs ks w' (hv1.keep h) (hv2.keep h) hl1 hl2)
  have HFD := Lib.hid (fun w' (h : Below w.heap.size w w') => pfind_big (.slice a1 cs.length c1) (.slice a2 ks.length c2) cs zc w' (hv1.keep h) hl1)
  have HCG := Lib.hid (fun (ho : CcOk cs ks) z (hz : ciF cs z.id = some z) w' (h : Below w.heap.size w w') => clashing_any (.slice a1 cs.length c1) (.slice a2 ks.length c2) cs ks z w' (hv1.keep h) (hv2.keep h) ho hz)
  have HTH := Lib.hid (fun (ho : CcOk cs ks) z (hz : ciF cs z.id = some z) w' (h : Below w.heap.size w w') => things_any (.slice a1 cs.length c1) (.slice a2 ks.length c2) cs ks z w' (hv1.keep h) (hv2.keep h) ho hz)
  have HMEM := Lib.hid (fun z => ciF_mem (l := cs) (id := zc) (k := z))
  have HOK := Lib.hid (ccE_ok (cs := cs) (ks := ks))
  have PR : ∀ {a : Int × Bool} {x : Int} {y : Bool}, a = (x, y) → a.1 = x ∧ a.2 = y := fun h => by rw [h]; exact ⟨rfl, rfl⟩
  have F1 := Lib.hid (fun h => PR (ft_bad (cs := cs) (ks := ks) (zc := zc) (zt := zt) (zl := zl) h))
  have F2 := Lib.hid (fun h h2 => PR (ft_none (cs := cs) (ks := ks) (zc := zc) (zt := zt) (zl := zl) h h2))
  have F3 := Lib.hid (fun h (z : Ci) h2 h3 => PR (ft_out (cs := cs) (ks := ks) (zc := zc) (zt := zt) (zl := zl) h (z := z) h2 h3))
  have F4 := Lib.hid (fun h (z : Ci) h2 h3 h4 => PR (ft_clash (cs := cs) (ks := ks) (zc := zc) (zt := zt) (zl := zl) h (z := z) h2 h3 h4))
  have F5 := Lib.hid (fun h (z : Ci) h2 h3 h4 k hk h5 h6 => PR (ft_not (cs := cs) (ks := ks) (zc := zc) (zt := zt) (zl := zl) h (z := z) h2 h3 h4 (k := k) hk h5 h6))
  have F6 := Lib.hid (fun h (z : Ci) h2 h3 h4 h5 => PR (ft_yes (cs := cs) (ks := ks) (zc := zc) (zt := zt) (zl := zl) h (z := z) h2 h3 h4 h5))
  clear PR
  unfold ClgOut at HCG
  unfold ThgOut at HTH
  obtain ⟨RN, hR⟩ : ∃ q, (ftR cs ks zc zt zl).1 = q := ⟨_, rfl⟩
  obtain ⟨RB, hRB⟩ : ∃ q, (ftR cs ks zc zt zl).2 = q := ⟨_, rfl⟩
  obtain ⟨E, hE⟩ : ∃ q, ccE cs ks = q := ⟨_, rfl⟩
  obtain ⟨F, hF⟩ : ∃ q, ciF cs zc = q := ⟨_, rfl⟩
  rw [hR, hRB, hE] at F1
  simp only [hR, hRB, hE] at F2 F3 F4 F5 F6
  simp only [hF] at F2 F3 F4 F5 F6 HMEM
  have HEE := Lib.hid hE
  have HFF := Lib.hid hF
  rw [hF] at HFD
  rw [hE] at HCH HOK
  rw [hR, hRB]
  clear hRB hv1 hv2 hz hl1 hl2 hzl hzt hcz hR hE hF
  obtain ⟨x0, x1, xlt, xb⟩ := two_cells w #[.slice a1 cs.length c1, .slice a2 ks.length c2] #[.int .i64 zc, .int .i64 zt, .slice za zl.length zcp] 25 38 (Below.refl _ _)
  have HNc : Hid (((w.alloc (.cells #[.slice a1 cs.length c1, .slice a2 ks.length c2] 25)).alloc (.cells #[.int .i64 zc, .int .i64 zt, .slice za zl.length zcp] 38)).heap[w.heap.size]? = some (.cells #[.slice a1 cs.length c1, .slice a2 ks.length c2] 25 (0, 0))) := Lib.hid x0
  have HNz : Hid (((w.alloc (.cells #[.slice a1 cs.length c1, .slice a2 ks.length c2] 25)).alloc (.cells #[.int .i64 zc, .int .i64 zt, .slice za zl.length zcp] 38)).heap[w.heap.size + 1]? = some (.cells #[.int .i64 zc, .int .i64 zt, .slice za zl.length zcp] 38 (0, 0))) := Lib.hid x1
  have HB : Hid (Below w.heap.size w ((w.alloc (.cells #[.slice a1 cs.length c1, .slice a2 ks.length c2] 25)).alloc (.cells #[.int .i64 zc, .int .i64 zt, .slice za zl.length zcp] 38))) := Lib.hid xb
  obtain ⟨Z, hZ⟩ : ∃ Z, ((w.alloc (.cells #[.slice a1 cs.length c1, .slice a2 ks.length c2] 25)).alloc (.cells #[.int .i64 zc, .int .i64 zt, .slice za zl.length zcp] 38)) = Z := ⟨_, rfl⟩
  rw [hZ] at HB HNc HNz
  have HZ := Lib.hid hZ
  clear hZ xlt xb x0 x1
  go_enter Tryz.func19, Tryz.ntmps19
  go_wp2_with fail
  rw [HZ.out]
  refine (HCH.out _ HB.out).mono ?_
  rintro e w1 ⟨rfl, hb⟩
  replace HB := Lib.hid (HB.out.trans (hb.mono HB.out.size))
  replace HNc := Lib.hid ((hb.block _ (Array.getElem?_eq_some_iff.1 HNc.out).1).trans HNc.out)
  replace HNz := Lib.hid ((hb.block _ (Array.getElem?_eq_some_iff.1 HNz.out).1).trans HNz.out)
  clear hb
  have zc0 := cellH HNc.out 0
  have zc1 := cellH HNc.out 1
  have zz0 := cellH HNz.out 0
  have zz1 := cellH HNz.out 1
  have zz2 := cellH HNz.out 2
  simp only [List.getElem?_toArray, List.getElem?_cons_zero, List.getElem?_cons_succ] at zc0 zc1 zz0 zz1 zz2
  go_wp2_with fail
  refine (HFD.out _ HB.out).mono ?_
  rintro e w2 ⟨rfl, hb⟩
  clear zc0 zc1 zz0 zz1 zz2
  replace HB := Lib.hid (HB.out.trans (hb.mono HB.out.size))
  replace HNc := Lib.hid ((hb.block _ (Array.getElem?_eq_some_iff.1 HNc.out).1).trans HNc.out)
  replace HNz := Lib.hid ((hb.block _ (Array.getElem?_eq_some_iff.1 HNz.out).1).trans HNz.out)
  clear hb HFD
  cases F with
  | none =>
    simp only [Option.getD_none, Ci.nil, Option.isSome_none]
    have hAlc : Below w2.heap.size w2 (w2.alloc (.cells #[.int .i64 0, .int .i64 0, .int .i64 0, .int .i64 0, .int .i64 0, .int .i64 0, .int .i64 0, .int .i64 0] 93)) := (Below.refl _ w2).alloc (Nat.le_refl _) _
    have HSx : Hid (w.heap.size ≤ w2.heap.size) := Lib.hid HB.out.size
    have HNx : Hid ((w2.alloc (.cells #[.int .i64 0, .int .i64 0, .int .i64 0, .int .i64 0, .int .i64 0, .int .i64 0, .int .i64 0, .int .i64 0] 93)).heap[w2.heap.size]? = some (.cells #[.int .i64 0, .int .i64 0, .int .i64 0, .int .i64 0, .int .i64 0, .int .i64 0, .int .i64 0, .int .i64 0] 93 (0, 0))) := Lib.hid (heap_alloc_new _ _)
    replace HB := Lib.hid (HB.out.trans (hAlc.mono HB.out.size))
    have HXc_x : Hid (w.heap.size ≠ w2.heap.size) := Lib.hid (Nat.ne_of_lt (Array.getElem?_eq_some_iff.1 HNc.out).1)
    have HXz_x : Hid (w.heap.size + 1 ≠ w2.heap.size) := Lib.hid (Nat.ne_of_lt (Array.getElem?_eq_some_iff.1 HNz.out).1)
    replace HNc := Lib.hid ((hAlc.block _ (Array.getElem?_eq_some_iff.1 HNc.out).1).trans HNc.out)
    replace HNz := Lib.hid ((hAlc.block _ (Array.getElem?_eq_some_iff.1 HNz.out).1).trans HNz.out)
    obtain ⟨ax, hax⟩ : ∃ qq, w2.alloc (.cells #[.int .i64 0, .int .i64 0, .int .i64 0, .int .i64 0, .int .i64 0, .int .i64 0, .int .i64 0, .int .i64 0] 93) = qq := ⟨_, rfl⟩
    obtain ⟨bkx, hbx⟩ : ∃ qq, w2.heap.size = qq := ⟨_, rfl⟩
    rw [hax] at HB HNx HNc HNz
    rw [hbx] at HNx HSx HXc_x HXz_x
    clear hAlc
    have zx0 := cellH HNx.out 0
    have zx1 := cellH HNx.out 1
    have zx2 := cellH HNx.out 2
    have zx3 := cellH HNx.out 3
    have zx4 := cellH HNx.out 4
    have zx5 := cellH HNx.out 5
    have zx6 := cellH HNx.out 6
    have zx7 := cellH HNx.out 7
    simp only [List.getElem?_toArray, List.getElem?_cons_zero, List.getElem?_cons_succ] at zx0 zx1 zx2 zx3 zx4 zx5 zx6 zx7
    have zfx := freeH HNx.out
    replace HNc := Lib.hid ((heap_other ax (bkx) 0 (.int .i64 0) _ HXc_x.out).trans HNc.out)
    replace HNz := Lib.hid ((heap_other ax (bkx) 0 (.int .i64 0) _ HXz_x.out).trans HNz.out)
    replace HNx := Lib.hid (heap_same HNx.out 0 (.int .i64 0))
    simp only [List.setIfInBounds_toArray, List.set_cons_zero, List.set_cons_succ] at HNx
    replace HB := Lib.hid (HB.out.setCell (p := ⟨bkx, 0, none⟩) HSx.out (.int .i64 0))
    obtain ⟨s3, hs3⟩ : ∃ X, ax.setCell ⟨bkx, 0, none⟩ (.int .i64 0) = X := ⟨_, rfl⟩
    rw [hs3] at HB HNc HNz HNx
    have zx0_3 := cellH HNx.out 0
    have zx1_3 := cellH HNx.out 1
    have zx2_3 := cellH HNx.out 2
    have zx3_3 := cellH HNx.out 3
    have zx4_3 := cellH HNx.out 4
    have zx5_3 := cellH HNx.out 5
    have zx6_3 := cellH HNx.out 6
    have zx7_3 := cellH HNx.out 7
    simp only [List.getElem?_toArray, List.getElem?_cons_zero, List.getElem?_cons_succ] at zx0_3 zx1_3 zx2_3 zx3_3 zx4_3 zx5_3 zx6_3 zx7_3
    have zfx_3 := freeH HNx.out
    replace HNc := Lib.hid ((heap_other s3 (bkx) 1 (.int .i64 0) _ HXc_x.out).trans HNc.out)
    replace HNz := Lib.hid ((heap_other s3 (bkx) 1 (.int .i64 0) _ HXz_x.out).trans HNz.out)
    replace HNx := Lib.hid (heap_same HNx.out 1 (.int .i64 0))
    simp only [List.setIfInBounds_toArray, List.set_cons_zero, List.set_cons_succ] at HNx
    replace HB := Lib.hid (HB.out.setCell (p := ⟨bkx, 1, none⟩) HSx.out (.int .i64 0))
    obtain ⟨s4, hs4⟩ : ∃ X, s3.setCell ⟨bkx, 1, none⟩ (.int .i64 0) = X := ⟨_, rfl⟩
    rw [hs4] at HB HNc HNz HNx
    have zx0_4 := cellH HNx.out 0
    have zx1_4 := cellH HNx.out 1
    have zx2_4 := cellH HNx.out 2
    have zx3_4 := cellH HNx.out 3
    have zx4_4 := cellH HNx.out 4
    have zx5_4 := cellH HNx.out 5
    have zx6_4 := cellH HNx.out 6
    have zx7_4 := cellH HNx.out 7
    simp only [List.getElem?_toArray, List.getElem?_cons_zero, List.getElem?_cons_succ] at zx0_4 zx1_4 zx2_4 zx3_4 zx4_4 zx5_4 zx6_4 zx7_4
    have zfx_4 := freeH HNx.out
    replace HNc := Lib.hid ((heap_other s4 (bkx) 2 (.int .i64 0) _ HXc_x.out).trans HNc.out)
    replace HNz := Lib.hid ((heap_other s4 (bkx) 2 (.int .i64 0) _ HXz_x.out).trans HNz.out)
    replace HNx := Lib.hid (heap_same HNx.out 2 (.int .i64 0))
    simp only [List.setIfInBounds_toArray, List.set_cons_zero, List.set_cons_succ] at HNx
    replace HB := Lib.hid (HB.out.setCell (p := ⟨bkx, 2, none⟩) HSx.out (.int .i64 0))
    obtain ⟨s5, hs5⟩ : ∃ X, s4.setCell ⟨bkx, 2, none⟩ (.int .i64 0) = X := ⟨_, rfl⟩
    rw [hs5] at HB HNc HNz HNx
    have zx0_5 := cellH HNx.out 0
    have zx1_5 := cellH HNx.out 1
    have zx2_5 := cellH HNx.out 2
    have zx3_5 := cellH HNx.out 3
    have zx4_5 := cellH HNx.out 4
    have zx5_5 := cellH HNx.out 5
    have zx6_5 := cellH HNx.out 6
    have zx7_5 := cellH HNx.out 7
    simp only [List.getElem?_toArray, List.getElem?_cons_zero, List.getElem?_cons_succ] at zx0_5 zx1_5 zx2_5 zx3_5 zx4_5 zx5_5 zx6_5 zx7_5
    have zfx_5 := freeH HNx.out
    replace HNc := Lib.hid ((heap_other s5 (bkx) 3 (.int .i64 0) _ HXc_x.out).trans HNc.out)
    replace HNz := Lib.hid ((heap_other s5 (bkx) 3 (.int .i64 0) _ HXz_x.out).trans HNz.out)
    replace HNx := Lib.hid (heap_same HNx.out 3 (.int .i64 0))
    simp only [List.setIfInBounds_toArray, List.set_cons_zero, List.set_cons_succ] at HNx
    replace HB := Lib.hid (HB.out.setCell (p := ⟨bkx, 3, none⟩) HSx.out (.int .i64 0))
    obtain ⟨s6, hs6⟩ : ∃ X, s5.setCell ⟨bkx, 3, none⟩ (.int .i64 0) = X := ⟨_, rfl⟩
    rw [hs6] at HB HNc HNz HNx
    have zx0_6 := cellH HNx.out 0
    have zx1_6 := cellH HNx.out 1
    have zx2_6 := cellH HNx.out 2
    have zx3_6 := cellH HNx.out 3
    have zx4_6 := cellH HNx.out 4
    have zx5_6 := cellH HNx.out 5
    have zx6_6 := cellH HNx.out 6
    have zx7_6 := cellH HNx.out 7
    simp only [List.getElem?_toArray, List.getElem?_cons_zero, List.getElem?_cons_succ] at zx0_6 zx1_6 zx2_6 zx3_6 zx4_6 zx5_6 zx6_6 zx7_6
    have zfx_6 := freeH HNx.out
    replace HNc := Lib.hid ((heap_other s6 (bkx) 4 (.int .i64 0) _ HXc_x.out).trans HNc.out)
    replace HNz := Lib.hid ((heap_other s6 (bkx) 4 (.int .i64 0) _ HXz_x.out).trans HNz.out)
    replace HNx := Lib.hid (heap_same HNx.out 4 (.int .i64 0))
    simp only [List.setIfInBounds_toArray, List.set_cons_zero, List.set_cons_succ] at HNx
    replace HB := Lib.hid (HB.out.setCell (p := ⟨bkx, 4, none⟩) HSx.out (.int .i64 0))
    obtain ⟨s7, hs7⟩ : ∃ X, s6.setCell ⟨bkx, 4, none⟩ (.int .i64 0) = X := ⟨_, rfl⟩
    rw [hs7] at HB HNc HNz HNx
    have zx0_7 := cellH HNx.out 0
    have zx1_7 := cellH HNx.out 1
    have zx2_7 := cellH HNx.out 2
    have zx3_7 := cellH HNx.out 3
    have zx4_7 := cellH HNx.out 4
    have zx5_7 := cellH HNx.out 5
    have zx6_7 := cellH HNx.out 6
    have zx7_7 := cellH HNx.out 7
    simp only [List.getElem?_toArray, List.getElem?_cons_zero, List.getElem?_cons_succ] at zx0_7 zx1_7 zx2_7 zx3_7 zx4_7 zx5_7 zx6_7 zx7_7
    have zfx_7 := freeH HNx.out
    replace HNc := Lib.hid ((heap_other s7 (bkx) 5 (.int .i64 0) _ HXc_x.out).trans HNc.out)
    replace HNz := Lib.hid ((heap_other s7 (bkx) 5 (.int .i64 0) _ HXz_x.out).trans HNz.out)
    replace HNx := Lib.hid (heap_same HNx.out 5 (.int .i64 0))
    simp only [List.setIfInBounds_toArray, List.set_cons_zero, List.set_cons_succ] at HNx
    replace HB := Lib.hid (HB.out.setCell (p := ⟨bkx, 5, none⟩) HSx.out (.int .i64 0))
    obtain ⟨s8, hs8⟩ : ∃ X, s7.setCell ⟨bkx, 5, none⟩ (.int .i64 0) = X := ⟨_, rfl⟩
    rw [hs8] at HB HNc HNz HNx
    have zx0_8 := cellH HNx.out 0
    have zx1_8 := cellH HNx.out 1
    have zx2_8 := cellH HNx.out 2
    have zx3_8 := cellH HNx.out 3
    have zx4_8 := cellH HNx.out 4
    have zx5_8 := cellH HNx.out 5
    have zx6_8 := cellH HNx.out 6
    have zx7_8 := cellH HNx.out 7
    simp only [List.getElem?_toArray, List.getElem?_cons_zero, List.getElem?_cons_succ] at zx0_8 zx1_8 zx2_8 zx3_8 zx4_8 zx5_8 zx6_8 zx7_8
    have zfx_8 := freeH HNx.out
    replace HNc := Lib.hid ((heap_other s8 (bkx) 6 (.int .i64 0) _ HXc_x.out).trans HNc.out)
    replace HNz := Lib.hid ((heap_other s8 (bkx) 6 (.int .i64 0) _ HXz_x.out).trans HNz.out)
    replace HNx := Lib.hid (heap_same HNx.out 6 (.int .i64 0))
    simp only [List.setIfInBounds_toArray, List.set_cons_zero, List.set_cons_succ] at HNx
    replace HB := Lib.hid (HB.out.setCell (p := ⟨bkx, 6, none⟩) HSx.out (.int .i64 0))
    obtain ⟨s9, hs9⟩ : ∃ X, s8.setCell ⟨bkx, 6, none⟩ (.int .i64 0) = X := ⟨_, rfl⟩
    rw [hs9] at HB HNc HNz HNx
    have zx0_9 := cellH HNx.out 0
    have zx1_9 := cellH HNx.out 1
    have zx2_9 := cellH HNx.out 2
    have zx3_9 := cellH HNx.out 3
    have zx4_9 := cellH HNx.out 4
    have zx5_9 := cellH HNx.out 5
    have zx6_9 := cellH HNx.out 6
    have zx7_9 := cellH HNx.out 7
    simp only [List.getElem?_toArray, List.getElem?_cons_zero, List.getElem?_cons_succ] at zx0_9 zx1_9 zx2_9 zx3_9 zx4_9 zx5_9 zx6_9 zx7_9
    have zfx_9 := freeH HNx.out
    replace HNc := Lib.hid ((heap_other s9 (bkx) 7 (.int .i64 0) _ HXc_x.out).trans HNc.out)
    replace HNz := Lib.hid ((heap_other s9 (bkx) 7 (.int .i64 0) _ HXz_x.out).trans HNz.out)
    replace HNx := Lib.hid (heap_same HNx.out 7 (.int .i64 0))
    simp only [List.setIfInBounds_toArray, List.set_cons_zero, List.set_cons_succ] at HNx
    replace HB := Lib.hid (HB.out.setCell (p := ⟨bkx, 7, none⟩) HSx.out (.int .i64 0))
    obtain ⟨s10, hs10⟩ : ∃ X, s9.setCell ⟨bkx, 7, none⟩ (.int .i64 0) = X := ⟨_, rfl⟩
    rw [hs10] at HB HNc HNz HNx
    have HN : Hid (RN = -1 ∧ RB = false) := Lib.hid (by
      by_cases h0 : E = 0
      · exact F2.out h0 (by first | rfl | trivial)
      · exact F1.out h0)
    clear F1 F2 F3 F4 F5 F6 HCG HTH HMEM
    cases h0 : (E != 0)
    · skip
      have zz0_10 := cellH HNz.out 0
      have zz1_10 := cellH HNz.out 1
      have zz2_10 := cellH HNz.out 2
      have zx0_10 := cellH HNx.out 0
      have zx1_10 := cellH HNx.out 1
      have zx2_10 := cellH HNx.out 2
      have zx3_10 := cellH HNx.out 3
      have zx4_10 := cellH HNx.out 4
      have zx5_10 := cellH HNx.out 5
      have zx6_10 := cellH HNx.out 6
      have zx7_10 := cellH HNx.out 7
      simp only [List.getElem?_toArray, List.getElem?_cons_zero, List.getElem?_cons_succ] at zz0_10 zz1_10 zz2_10 zx0_10 zx1_10 zx2_10 zx3_10 zx4_10 zx5_10 zx6_10 zx7_10
      go_wp2_with fail
      go_ret2
      exact ⟨by rw [HN.out.1, HN.out.2]; rfl, HB.out⟩
    · skip
      have zz0_11 := cellH HNz.out 0
      have zz1_11 := cellH HNz.out 1
      have zz2_11 := cellH HNz.out 2
      have zx0_11 := cellH HNx.out 0
      have zx1_11 := cellH HNx.out 1
      have zx2_11 := cellH HNx.out 2
      have zx3_11 := cellH HNx.out 3
      have zx4_11 := cellH HNx.out 4
      have zx5_11 := cellH HNx.out 5
      have zx6_11 := cellH HNx.out 6
      have zx7_11 := cellH HNx.out 7
      simp only [List.getElem?_toArray, List.getElem?_cons_zero, List.getElem?_cons_succ] at zz0_11 zz1_11 zz2_11 zx0_11 zx1_11 zx2_11 zx3_11 zx4_11 zx5_11 zx6_11 zx7_11
      go_wp2_with fail
      go_ret2
      exact ⟨by rw [HN.out.1, HN.out.2]; rfl, HB.out⟩
  | some z =>
    simp only [Option.getD_some, Option.isSome_some]
    obtain ⟨z0, z1, z2, z3, z4, z5, z6, z7⟩ := z
    have hAlc : Below w2.heap.size w2 (w2.alloc (.cells #[.int .i64 z0, .int .i64 z1, .int .i64 z2, .int .i64 z3, .int .i64 z4, .int .i64 z5, .int .i64 z6, .int .i64 z7] 93)) := (Below.refl _ w2).alloc (Nat.le_refl _) _
    have HSx : Hid (w.heap.size ≤ w2.heap.size) := Lib.hid HB.out.size
    have HNx : Hid ((w2.alloc (.cells #[.int .i64 z0, .int .i64 z1, .int .i64 z2, .int .i64 z3, .int .i64 z4, .int .i64 z5, .int .i64 z6, .int .i64 z7] 93)).heap[w2.heap.size]? = some (.cells #[.int .i64 z0, .int .i64 z1, .int .i64 z2, .int .i64 z3, .int .i64 z4, .int .i64 z5, .int .i64 z6, .int .i64 z7] 93 (0, 0))) := Lib.hid (heap_alloc_new _ _)
    replace HB := Lib.hid (HB.out.trans (hAlc.mono HB.out.size))
    have HXc_x : Hid (w.heap.size ≠ w2.heap.size) := Lib.hid (Nat.ne_of_lt (Array.getElem?_eq_some_iff.1 HNc.out).1)
    have HXz_x : Hid (w.heap.size + 1 ≠ w2.heap.size) := Lib.hid (Nat.ne_of_lt (Array.getElem?_eq_some_iff.1 HNz.out).1)
    replace HNc := Lib.hid ((hAlc.block _ (Array.getElem?_eq_some_iff.1 HNc.out).1).trans HNc.out)
    replace HNz := Lib.hid ((hAlc.block _ (Array.getElem?_eq_some_iff.1 HNz.out).1).trans HNz.out)
    obtain ⟨ax, hax⟩ : ∃ qq, w2.alloc (.cells #[.int .i64 z0, .int .i64 z1, .int .i64 z2, .int .i64 z3, .int .i64 z4, .int .i64 z5, .int .i64 z6, .int .i64 z7] 93) = qq := ⟨_, rfl⟩
    obtain ⟨bkx, hbx⟩ : ∃ qq, w2.heap.size = qq := ⟨_, rfl⟩
    rw [hax] at HB HNx HNc HNz
    rw [hbx] at HNx HSx HXc_x HXz_x
    clear hAlc
    by_cases h0 : E = 0
    case neg =>
      have HN := Lib.hid (F1.out h0)
      have gE : (E != 0) = true := by simpa using h0
      clear h0 F1 F2 F3 F4 F5 F6 HCG HTH HMEM
      have zz0 := cellH HNz.out 0
      have zz1 := cellH HNz.out 1
      have zz2 := cellH HNz.out 2
      have zx0 := cellH HNx.out 0
      have zx1 := cellH HNx.out 1
      have zx2 := cellH HNx.out 2
      have zx3 := cellH HNx.out 3
      have zx4 := cellH HNx.out 4
      have zx5 := cellH HNx.out 5
      have zx6 := cellH HNx.out 6
      have zx7 := cellH HNx.out 7
      simp only [List.getElem?_toArray, List.getElem?_cons_zero, List.getElem?_cons_succ] at zz0 zz1 zz2 zx0 zx1 zx2 zx3 zx4 zx5 zx6 zx7
      go_wp2_with fail
      go_ret2
      exact ⟨by rw [HN.out.1, HN.out.2]; rfl, HB.out⟩
    have hzi := (HMEM.out _ rfl).choose_spec.2.2
    simp only at hzi
    have HO := Lib.hid (HOK.out h0)
    have hzz : ciF cs (Ci.mk z0 z1 z2 z3 z4 z5 z6 z7).id = some ⟨z0, z1, z2, z3, z4, z5, z6, z7⟩ := (congrArg (ciF cs) hzi).trans HFF.out
    have HZO := Lib.hid (Ci.ok_iff.1 (ciF_ok HO.out hzz))
    have HOT : Hid (∀ h ∈ thL ⟨z0, z1, z2, z3, z4, z5, z6, z7⟩ ks, h.ok) := Lib.hid (fun h hh => dlL_ok HO.out hzz _ ((srtH_perm _).mem_iff.2 hh))
    have HTL := Lib.hid (thL_len (z := ⟨z0, z1, z2, z3, z4, z5, z6, z7⟩) HO.out.m)
    have HCG2 := Lib.hid (HCG.out HO.out _ hzz)
    have HTH2 := Lib.hid (HTH.out HO.out _ hzz)
    have HGC := Lib.hid (gl_ct HO.out ⟨z0, z1, z2, z3, z4, z5, z6, z7⟩)
    have HSPP := Lib.hid (fun t => sp_perm z7 t (srtH_perm (thL ⟨z0, z1, z2, z3, z4, z5, z6, z7⟩ ks)))
    replace F3 := Lib.hid (F3.out h0 _ rfl)
    replace F4 := Lib.hid (F4.out h0 _ rfl)
    replace F5 := Lib.hid (F5.out h0 _ rfl)
    replace F6 := Lib.hid (F6.out h0 _ rfl)
    have HSB := Lib.hid (fun t ht => sp_bds (dr := z7) (t := t) (by have := HZO.out; simp only at this; omega) ht (thL ⟨z0, z1, z2, z3, z4, z5, z6, z7⟩ ks) HOT.out)
    change Hid (∀ t, spLo z7 (dlL ⟨z0, z1, z2, z3, z4, z5, z6, z7⟩ ks) t = spLo z7 (thL ⟨z0, z1, z2, z3, z4, z5, z6, z7⟩ ks) t ∧ spHi z7 (dlL ⟨z0, z1, z2, z3, z4, z5, z6, z7⟩ ks) t = spHi z7 (thL ⟨z0, z1, z2, z3, z4, z5, z6, z7⟩ ks) t) at HSPP
    simp only at F3 F4 F5 F6 HZO HCG2 HGC
    obtain ⟨DL, hDL⟩ : ∃ q, dlL ⟨z0, z1, z2, z3, z4, z5, z6, z7⟩ ks = q := ⟨_, rfl⟩
    obtain ⟨PG, hPG⟩ : ∃ q, gAll z7 (thL ⟨z0, z1, z2, z3, z4, z5, z6, z7⟩ ks) (thL ⟨z0, z1, z2, z3, z4, z5, z6, z7⟩ ks).length = q := ⟨_, rfl⟩
    rw [hPG] at HCG2 HGC
    rw [hDL] at F4 F5 F6 HGC HSPP
    obtain ⟨L, hL⟩ : ∃ q, thL ⟨z0, z1, z2, z3, z4, z5, z6, z7⟩ ks = q := ⟨_, rfl⟩
    rw [hL] at HOT HTL HTH2 HSPP HSB
    have HDB := Lib.hid (show 0 ≤ z3 ∧ z3 ≤ z4 ∧ z4 ≤ 1048576 ∧ 0 ≤ z7 ∧ z7 ≤ 60 by have := HZO.out; omega)
    have HC1 := Lib.hid (ci_iff (n := (zl.length : Int)) (a := 1) (b := 400))
    have HC2 := Lib.hid (ci_iff (n := zt) (a := z3) (b := z4 - ((zl.length : Int) - 1)))
    have HLM := Lib.hid (fun v t w' h1 ht => limits_any ⟨z0, z1, z2, z3, z4, z5, z6, z7⟩ v L t w' h1 (by have := HTL.out; omega) (by have := HDB.out; simp only; omega) ht HOT.out)
    have HFA := Lib.hid (fun s t w' hs ht => pFar_any ⟨z0, z1, z2, z3, z4, z5, z6, z7⟩ s t w' (by have := HDB.out; simp only; omega) hs ht)
    obtain ⟨C1, hC1⟩ : ∃ q, ciB (zl.length : Int) 1 400 = q := ⟨_, rfl⟩
    obtain ⟨C2, hC2⟩ : ∃ q, ciB zt z3 (z4 - ((zl.length : Int) - 1)) = q := ⟨_, rfl⟩
    simp only [hC1, hC2] at F3 F4 F5 F6 HC1 HC2
    try simp only at HLM
    try simp only at HFA
    subst h0
    clear hzi hzz hDL hPG hL hC1 hC2 HCG HTH HMEM HOK F1 F2
    by_cases q0 : zl.length = 0
    case pos =>
      have hcf : (C1 && C2) = false := by
        cases hc1 : C1
        · rfl
        · cases hc2 : C2
          · rfl
          · have h1 := HC1.out.1 hc1
            have h2 := HC2.out.1 hc2
            exfalso
            have := HDB.out
            omega
      have HN := Lib.hid (F3.out hcf)
      clear hcf F3 F4 F5 F6
      have gq : ((zl.length : Int) == 0) = true := by rw [q0]; rfl
      clear q0
      have zz0 := cellH HNz.out 0
      have zz1 := cellH HNz.out 1
      have zz2 := cellH HNz.out 2
      have zx0 := cellH HNx.out 0
      have zx1 := cellH HNx.out 1
      have zx2 := cellH HNx.out 2
      have zx3 := cellH HNx.out 3
      have zx4 := cellH HNx.out 4
      have zx5 := cellH HNx.out 5
      have zx6 := cellH HNx.out 6
      have zx7 := cellH HNx.out 7
      simp only [List.getElem?_toArray, List.getElem?_cons_zero, List.getElem?_cons_succ] at zz0 zz1 zz2 zx0 zx1 zx2 zx3 zx4 zx5 zx6 zx7
      go_wp2_with fail
      go_ret2
      exact ⟨by rw [HN.out.1, HN.out.2]; rfl, HB.out⟩
    have gq : ((zl.length : Int) == 0) = false := by simpa using (by omega : ¬ (zl.length : Int) = 0)
    by_cases q1 : 400 < zl.length
    case pos =>
      have hcf : (C1 && C2) = false := by
        cases hc1 : C1
        · rfl
        · cases hc2 : C2
          · rfl
          · have h1 := HC1.out.1 hc1
            have h2 := HC2.out.1 hc2
            exfalso
            have := HDB.out
            omega
      have HN := Lib.hid (F3.out hcf)
      clear hcf F3 F4 F5 F6
      have gq1 : (400 : Int) < zl.length := by omega
      have zz0 := cellH HNz.out 0
      have zz1 := cellH HNz.out 1
      have zz2 := cellH HNz.out 2
      have zx0 := cellH HNx.out 0
      have zx1 := cellH HNx.out 1
      have zx2 := cellH HNx.out 2
      have zx3 := cellH HNx.out 3
      have zx4 := cellH HNx.out 4
      have zx5 := cellH HNx.out 5
      have zx6 := cellH HNx.out 6
      have zx7 := cellH HNx.out 7
      simp only [List.getElem?_toArray, List.getElem?_cons_zero, List.getElem?_cons_succ] at zz0 zz1 zz2 zx0 zx1 zx2 zx3 zx4 zx5 zx6 zx7
      go_wp2_with fail
      go_ret2
      exact ⟨by rw [HN.out.1, HN.out.2]; rfl, HB.out⟩
    have gq1 : ¬ (400 : Int) < zl.length := by omega
    by_cases q2 : zt < z3
    case pos =>
      have hcf : (C1 && C2) = false := by
        cases hc1 : C1
        · rfl
        · cases hc2 : C2
          · rfl
          · have h1 := HC1.out.1 hc1
            have h2 := HC2.out.1 hc2
            exfalso
            have := HDB.out
            omega
      have HN := Lib.hid (F3.out hcf)
      clear hcf F3 F4 F5 F6
      have zz0 := cellH HNz.out 0
      have zz1 := cellH HNz.out 1
      have zz2 := cellH HNz.out 2
      have zx0 := cellH HNx.out 0
      have zx1 := cellH HNx.out 1
      have zx2 := cellH HNx.out 2
      have zx3 := cellH HNx.out 3
      have zx4 := cellH HNx.out 4
      have zx5 := cellH HNx.out 5
      have zx6 := cellH HNx.out 6
      have zx7 := cellH HNx.out 7
      simp only [List.getElem?_toArray, List.getElem?_cons_zero, List.getElem?_cons_succ] at zz0 zz1 zz2 zx0 zx1 zx2 zx3 zx4 zx5 zx6 zx7
      go_wp2_with fail
      go_ret2
      exact ⟨by rw [HN.out.1, HN.out.2]; rfl, HB.out⟩
    by_cases q3 : z4 < zt
    case pos =>
      have hcf : (C1 && C2) = false := by
        cases hc1 : C1
        · rfl
        · cases hc2 : C2
          · rfl
          · have h1 := HC1.out.1 hc1
            have h2 := HC2.out.1 hc2
            exfalso
            have := HDB.out
            omega
      have HN := Lib.hid (F3.out hcf)
      clear hcf F3 F4 F5 F6
      have zz0 := cellH HNz.out 0
      have zz1 := cellH HNz.out 1
      have zz2 := cellH HNz.out 2
      have zx0 := cellH HNx.out 0
      have zx1 := cellH HNx.out 1
      have zx2 := cellH HNx.out 2
      have zx3 := cellH HNx.out 3
      have zx4 := cellH HNx.out 4
      have zx5 := cellH HNx.out 5
      have zx6 := cellH HNx.out 6
      have zx7 := cellH HNx.out 7
      simp only [List.getElem?_toArray, List.getElem?_cons_zero, List.getElem?_cons_succ] at zz0 zz1 zz2 zx0 zx1 zx2 zx3 zx4 zx5 zx6 zx7
      go_wp2_with fail
      go_ret2
      exact ⟨by rw [HN.out.1, HN.out.2]; rfl, HB.out⟩
    have hdb := HDB.out
    have gw1 : IntKind.i64.wrap (z4 - zt) = z4 - zt := IntWalk.i64_in _ (by omega)
    have gw2 : IntKind.i64.wrap (z4 - zt + 1) = z4 - zt + 1 := IntWalk.i64_in _ (by omega)
    clear hdb
    by_cases q4 : z4 - zt + 1 < (zl.length : Int)
    case pos =>
      have hcf : (C1 && C2) = false := by
        cases hc1 : C1
        · rfl
        · cases hc2 : C2
          · rfl
          · have h1 := HC1.out.1 hc1
            have h2 := HC2.out.1 hc2
            exfalso
            have := HDB.out
            omega
      have HN := Lib.hid (F3.out hcf)
      clear hcf F3 F4 F5 F6
      have zz0 := cellH HNz.out 0
      have zz1 := cellH HNz.out 1
      have zz2 := cellH HNz.out 2
      have zx0 := cellH HNx.out 0
      have zx1 := cellH HNx.out 1
      have zx2 := cellH HNx.out 2
      have zx3 := cellH HNx.out 3
      have zx4 := cellH HNx.out 4
      have zx5 := cellH HNx.out 5
      have zx6 := cellH HNx.out 6
      have zx7 := cellH HNx.out 7
      simp only [List.getElem?_toArray, List.getElem?_cons_zero, List.getElem?_cons_succ] at zz0 zz1 zz2 zx0 zx1 zx2 zx3 zx4 zx5 zx6 zx7
      go_wp2_with fail
      go_ret2
      exact ⟨by rw [HN.out.1, HN.out.2]; rfl, HB.out⟩
    have hcc1 : C1 = true := HC1.out.2 (by omega)
    have hcc2 : C2 = true := HC2.out.2 (by omega)
    subst hcc1
    subst hcc2
    replace F4 := Lib.hid (F4.out rfl)
    replace F5 := Lib.hid (F5.out rfl)
    replace F6 := Lib.hid (F6.out rfl)
    have HQB := Lib.hid (show 1 ≤ zl.length ∧ zl.length ≤ 400 ∧ z3 ≤ zt ∧ zt ≤ z4 ∧ (zl.length : Int) ≤ z4 - zt + 1 by omega)
    clear F3 HC1 HC2
    have zc0 := cellH HNc.out 0
    have zc1 := cellH HNc.out 1
    have zz0 := cellH HNz.out 0
    have zz1 := cellH HNz.out 1
    have zz2 := cellH HNz.out 2
    have zx0 := cellH HNx.out 0
    have zx1 := cellH HNx.out 1
    have zx2 := cellH HNx.out 2
    have zx3 := cellH HNx.out 3
    have zx4 := cellH HNx.out 4
    have zx5 := cellH HNx.out 5
    have zx6 := cellH HNx.out 6
    have zx7 := cellH HNx.out 7
    simp only [List.getElem?_toArray, List.getElem?_cons_zero, List.getElem?_cons_succ] at zc0 zc1 zz0 zz1 zz2 zx0 zx1 zx2 zx3 zx4 zx5 zx6 zx7
    go_wp2_with fail
    try clear hax hbx
    refine (HCG2.out _ HB.out).mono ?_
    rintro e w11 ⟨pv, rfl, hp, hb⟩
    obtain ⟨pa, pc, rfl, _⟩ := hp.form
    clear hp
    clear zc0 zc1 zz0 zz1 zz2 zx0 zx1 zx2 zx3 zx4 zx5 zx6 zx7
    clear gw1 gw2 gq gq1 q0 q1 q2 q3 q4
    replace HB := Lib.hid (HB.out.trans (hb.mono HB.out.size))
    replace HNc := Lib.hid ((hb.block _ (Array.getElem?_eq_some_iff.1 HNc.out).1).trans HNc.out)
    replace HNz := Lib.hid ((hb.block _ (Array.getElem?_eq_some_iff.1 HNz.out).1).trans HNz.out)
    replace HNx := Lib.hid ((hb.block _ (Array.getElem?_eq_some_iff.1 HNx.out).1).trans HNx.out)
    clear hb
    by_cases h9 : 0 < PG.length
    case pos =>
      have HN := Lib.hid (F4.out (HGC.out.1 h9))
      have gl : (0 : Int) < (PG.length : Int) := by omega
      have gl2 : decide ((0 : Int) < (PG.length : Int)) = true := decide_eq_true gl
      clear F4 F5 F6
      have zz0 := cellH HNz.out 0
      have zz1 := cellH HNz.out 1
      have zz2 := cellH HNz.out 2
      simp only [List.getElem?_toArray, List.getElem?_cons_zero, List.getElem?_cons_succ] at zz0 zz1 zz2
      go_wp2_with fail
      go_ret2
      exact ⟨by rw [HN.out.1, HN.out.2]; rfl, HB.out⟩
    replace F5 := Lib.hid (F5.out (HGC.out.2 h9))
    replace F6 := Lib.hid (F6.out (HGC.out.2 h9))
    have gl : ¬ (0 : Int) < (PG.length : Int) := by omega
    have gl2 : decide ((0 : Int) < (PG.length : Int)) = false := decide_eq_false gl
    clear h9 F4 HGC
    have zc0 := cellH HNc.out 0
    have zc1 := cellH HNc.out 1
    have zx0 := cellH HNx.out 0
    have zx1 := cellH HNx.out 1
    have zx2 := cellH HNx.out 2
    have zx3 := cellH HNx.out 3
    have zx4 := cellH HNx.out 4
    have zx5 := cellH HNx.out 5
    have zx6 := cellH HNx.out 6
    have zx7 := cellH HNx.out 7
    simp only [List.getElem?_toArray, List.getElem?_cons_zero, List.getElem?_cons_succ] at zc0 zc1 zx0 zx1 zx2 zx3 zx4 zx5 zx6 zx7
    go_wp2_with fail
    refine (HTH2.out _ HB.out).mono ?_
    rintro e w12 ⟨tv, rfl, ht, hb⟩
    obtain ⟨ta, tc, rfl, _⟩ := ht.form
    have HT := Lib.hid ht
    clear ht gl gl2
    clear zc0 zc1 zx0 zx1 zx2 zx3 zx4 zx5 zx6 zx7
    replace HB := Lib.hid (HB.out.trans (hb.mono HB.out.size))
    replace HNc := Lib.hid ((hb.block _ (Array.getElem?_eq_some_iff.1 HNc.out).1).trans HNc.out)
    replace HNz := Lib.hid ((hb.block _ (Array.getElem?_eq_some_iff.1 HNz.out).1).trans HNz.out)
    replace HNx := Lib.hid ((hb.block _ (Array.getElem?_eq_some_iff.1 HNx.out).1).trans HNx.out)
    clear hb HCG2 HTH2
    obtain ⟨TN, hTN⟩ : ∃ q, L.length = q := ⟨_, rfl⟩
    rw [hTN] at HT ⊢
    clear hTN
    clear HNc
    have zz0 := cellH HNz.out 0
    have zz1 := cellH HNz.out 1
    have zz2 := cellH HNz.out 2
    simp only [List.getElem?_toArray, List.getElem?_cons_zero, List.getElem?_cons_succ] at zz0 zz1 zz2
    go_wp2_with fail
    clear zz0 zz1 zz2
    go_loopw [10] (fun x wr => ∃ (i : Nat), i ≤ zl.length ∧ x = .int .i64 i ∧ Hid (∀ j, j < i → fiB z7 DL zt zl j = true) ∧ Hid (Below w.heap.size w wr) ∧ Hid (wr.heap[w.heap.size + 1]? = some (.cells #[.int .i64 zc, .int .i64 zt, .slice za zl.length zcp] 38 (0, 0))) ∧ Hid (wr.heap[bkx]? = some (.cells #[.int .i64 z0, .int .i64 z1, .int .i64 z2, .int .i64 z3, .int .i64 z4, .int .i64 z5, .int .i64 z6, .int .i64 z7] 93 (0, 0))) ∧ Hid (TgRow wr (.slice ta TN tc) L)) (fun x _ => zl.length - (intOf x).toNat)
    case atStart => exact ⟨0, Nat.zero_le _, rfl, Lib.hid (fun m hm => by omega), HB, HNz, HNx, HT⟩
    case round =>
      clear HB HNz HNx HT
      obtain ⟨i, hi, rfl, hN, HB, HNz, HNx, HT⟩ := hrel
      have hqb := HQB.out
      have hdb := HDB.out
      by_cases hil : i < zl.length
      · obtain ⟨b0, off0, rfl, hb0, c0⟩ := HCZ.out i hil
        have HC0 := Lib.hid (show b0 < w.heap.size ∧ w.cell? ⟨b0, off0 + i, none⟩ = some (.int .i64 (zl.getD i 0)) from ⟨hb0, c0⟩)
        have hki : (i : Int) < zl.length := by omega
        have hk0 : (0 : Int) ≤ i := by omega
        have HIL := Lib.hid hil
        have hprev : ∀ j, j < i → -300 ≤ zl.getD j 0 ∧ zl.getD j 0 ≤ 300 := fun j hj => by
          have h1 := hN.out j hj
          unfold fiB at h1
          rw [Bool.and_eq_true, ci_iff] at h1
          have h2 := HSB.out (zt + j) ⟨by omega, by omega⟩
          have h3 := HSPP.out (zt + j)
          omega
        have HPV := Lib.hid hprev
        have HNK := Lib.hid (F5.out i hil hN.out)
        have HNX : Hid (fiB z7 DL zt zl i = true → ∀ j, j < i + 1 → fiB z7 DL zt zl j = true) := Lib.hid (fun h j hj => by
          by_cases e : j = i
          · subst e; exact h
          · exact hN.out j (by omega))
        obtain ⟨T, hT⟩ : ∃ q, zt + (i : Int) = q := ⟨_, rfl⟩
        have gwT : IntKind.i64.wrap (zt + (i : Int)) = T := by rw [hT]; exact IntWalk.i64_in _ (by omega)
        have HTB := Lib.hid (show 0 ≤ T ∧ T ≤ 1048576 by omega)
        have HLT := Lib.hid (fun w' h1 => HLM.out (.slice ta TN tc) T w' h1 HTB.out)
        have hsp := HSPP.out T
        have hsb := HSB.out T HTB.out
        obtain ⟨SL, hSL⟩ : ∃ q, spLo z7 L T = q := ⟨_, rfl⟩
        obtain ⟨SH, hSH⟩ : ∃ q, spHi z7 L T = q := ⟨_, rfl⟩
        rw [hSL, hSH] at HLT hsp hsb
        have HSPL := Lib.hid (fi_split (zl := zl) hT hsp.1 hsp.2)
        have HSBB := Lib.hid hsb
        rw [hT] at HNK
        obtain ⟨ZI, hZI⟩ : ∃ q, zl.getD i 0 = q := ⟨_, rfl⟩
        rw [hZI] at HSPL HC0
        obtain ⟨FB, hFB⟩ : ∃ q, fiB z7 DL zt zl i = q := ⟨_, rfl⟩
        rw [hFB] at HSPL HNK HNX
        have HWI := Lib.hid (fun w' => pwithin_any ZI SL SH w')
        have HCB := Lib.hid (fun h => ci_iff (n := ZI) (a := SL) (b := SH) |>.1 h)
        obtain ⟨CB, hCB⟩ : ∃ q, ciB ZI SL SH = q := ⟨_, rfl⟩
        rw [hCB] at HSPL HWI HCB
        have HTT := Lib.hid hT
        clear hb0 c0 hprev hT hsp hsb hSL hSH hZI hFB hCB hqb hdb
        have zz0 := cellH HNz.out 0
        have zz1 := cellH HNz.out 1
        have zz2 := cellH HNz.out 2
        have zx0 := cellH HNx.out 0
        have zx1 := cellH HNx.out 1
        have zx2 := cellH HNx.out 2
        have zx3 := cellH HNx.out 3
        have zx4 := cellH HNx.out 4
        have zx5 := cellH HNx.out 5
        have zx6 := cellH HNx.out 6
        have zx7 := cellH HNx.out 7
        simp only [List.getElem?_toArray, List.getElem?_cons_zero, List.getElem?_cons_succ] at zz0 zz1 zz2 zx0 zx1 zx2 zx3 zx4 zx5 zx6 zx7
        go_wp2_with fail
        refine (HLT.out _ HT.out).mono ?_
        rintro e w13 ⟨rfl, hb⟩
        clear zz0 zz1 zz2 zx0 zx1 zx2 zx3 zx4 zx5 zx6 zx7
        replace HB := Lib.hid (HB.out.trans (hb.mono HB.out.size))
        replace HNz := Lib.hid ((hb.block _ (Array.getElem?_eq_some_iff.1 HNz.out).1).trans HNz.out)
        replace HNx := Lib.hid ((hb.block _ (Array.getElem?_eq_some_iff.1 HNx.out).1).trans HNx.out)
        replace HT := Lib.hid (HT.out.keep hb)
        clear hb HLT
        have hAlc : Below w13.heap.size w13 (w13.alloc (.cells #[.int .i64 SL, .int .i64 SH] 36)) := (Below.refl _ w13).alloc (Nat.le_refl _) _
        have HSsp : Hid (w.heap.size ≤ w13.heap.size) := Lib.hid HB.out.size
        have HNsp : Hid ((w13.alloc (.cells #[.int .i64 SL, .int .i64 SH] 36)).heap[w13.heap.size]? = some (.cells #[.int .i64 SL, .int .i64 SH] 36 (0, 0))) := Lib.hid (heap_alloc_new _ _)
        replace HB := Lib.hid (HB.out.trans (hAlc.mono HB.out.size))
        have HXz_sp : Hid (w.heap.size + 1 ≠ w13.heap.size) := Lib.hid (Nat.ne_of_lt (Array.getElem?_eq_some_iff.1 HNz.out).1)
        have HXx_sp : Hid (bkx ≠ w13.heap.size) := Lib.hid (Nat.ne_of_lt (Array.getElem?_eq_some_iff.1 HNx.out).1)
        replace HNz := Lib.hid ((hAlc.block _ (Array.getElem?_eq_some_iff.1 HNz.out).1).trans HNz.out)
        replace HNx := Lib.hid ((hAlc.block _ (Array.getElem?_eq_some_iff.1 HNx.out).1).trans HNx.out)
        replace HT := Lib.hid (HT.out.keep hAlc)
        obtain ⟨asp, hasp⟩ : ∃ qq, w13.alloc (.cells #[.int .i64 SL, .int .i64 SH] 36) = qq := ⟨_, rfl⟩
        obtain ⟨bksp, hbsp⟩ : ∃ qq, w13.heap.size = qq := ⟨_, rfl⟩
        rw [hasp] at HB HNsp HNz HNx HT
        rw [hbsp] at HNsp HSsp HXz_sp HXx_sp
        clear hAlc
        have e0 := (HB.out.cell (p := ⟨b0, _, none⟩) HC0.out.1).trans HC0.out.2
        have zz0 := cellH HNz.out 0
        have zz1 := cellH HNz.out 1
        have zz2 := cellH HNz.out 2
        have zsp0 := cellH HNsp.out 0
        have zsp1 := cellH HNsp.out 1
        simp only [List.getElem?_toArray, List.getElem?_cons_zero, List.getElem?_cons_succ] at zz0 zz1 zz2 zsp0 zsp1
        go_wp2_with fail
        try clear hasp hbsp
        go_quiet ((go_at_call 43; with_reducible exact Calls.quiet_of_same (HWI.out _)))
        obtain ⟨wq, hwq⟩ : ∃ q, asp.drewN nq = q := ⟨_, rfl⟩
        have hbq : Below asp.heap.size asp wq := by rw [← hwq]; exact belowN (Below.refl _ _) _
        rw [hwq]
        clear hwq
        clear zz0 zz1 zz2 zsp0 zsp1
        clear e0
        replace HB := Lib.hid (HB.out.trans (hbq.mono HB.out.size))
        replace HNz := Lib.hid ((hbq.block _ (Array.getElem?_eq_some_iff.1 HNz.out).1).trans HNz.out)
        replace HNx := Lib.hid ((hbq.block _ (Array.getElem?_eq_some_iff.1 HNx.out).1).trans HNx.out)
        replace HNsp := Lib.hid ((hbq.block _ (Array.getElem?_eq_some_iff.1 HNsp.out).1).trans HNsp.out)
        replace HT := Lib.hid (HT.out.keep hbq)
        clear hbq
        go_wp2_with fail
        go_loopw [12, 13] (fun bb x wr => ∃ (m : Nat) (B : Bool), m ≤ i ∧ bb = .bool B ∧ x = .int .i64 m ∧ Hid (B = (CB && (List.range m).all fun k => ciB (ZI - zl.getD k 0) (-(frI z7 (zt + k) T)) (frI z7 (zt + k) T))) ∧ Hid (Below w.heap.size w wr) ∧ Hid (wr.heap[w.heap.size + 1]? = some (.cells #[.int .i64 zc, .int .i64 zt, .slice (some ⟨b0, off0, none⟩) zl.length zcp] 38 (0, 0))) ∧ Hid (wr.heap[bkx]? = some (.cells #[.int .i64 z0, .int .i64 z1, .int .i64 z2, .int .i64 z3, .int .i64 z4, .int .i64 z5, .int .i64 z6, .int .i64 z7] 93 (0, 0))) ∧ Hid (wr.heap[bksp]? = some (.cells #[.int .i64 SL, .int .i64 SH] 36 (0, 0))) ∧ Hid (TgRow wr (.slice ta TN tc) L)) (fun _ x _ => i - (intOf x).toNat)
        case atStart => exact ⟨0, CB, Nat.zero_le _, rfl, rfl, Lib.hid (by simp), HB, HNz, HNx, HNsp, HT⟩
        case round =>
          clear HB HNz HNx HNsp HT
          obtain ⟨m, B, hm, rfl, rfl, hBB, HB, HNz, HNx, HNsp, HT⟩ := hrel
          have hqb := HQB.out
          have hdb := HDB.out
          have hil := HIL.out
          by_cases hml : m < i
          case neg =>
            obtain rfl : m = i := by omega
            have hmi : ¬ (m : Int) < m := by omega
            have HML := Lib.hid hmi
            have HFV : Hid (FB = B) := Lib.hid (by rw [HSPL.out, ← hBB.out])
            have gm9 := HML.out
            clear hBB
            have zz0 := cellH HNz.out 0
            have zz1 := cellH HNz.out 1
            have zz2 := cellH HNz.out 2
            simp only [List.getElem?_toArray, List.getElem?_cons_zero, List.getElem?_cons_succ] at zz0 zz1 zz2
            cases B
            · have HN := Lib.hid (HNK.out (by rw [HFV.out]))
              go_wp2_with fail
              go_ret2
              exact ⟨by rw [HN.out.1, HN.out.2]; rfl, HB.out⟩
            · have HN2 := Lib.hid (HNX.out (by rw [HFV.out]))
              go_wp2_with fail
              go_roundw
              case rel => exact ⟨m + 1, HIL.out, by go_num, HN2, HB, HNz, HNx, HT⟩
              case measure => have := HIL.out; simp [intOf]; omega
          cases B
          case false =>
            have hmi : (m : Int) < i := by omega
            have HFV : Hid (FB = false) := Lib.hid (by rw [HSPL.out]; exact all_stop (Nat.le_of_lt hml) hBB.out.symm)
            have HN := Lib.hid (HNK.out HFV.out)
            clear hBB
            have zz0 := cellH HNz.out 0
            have zz1 := cellH HNz.out 1
            have zz2 := cellH HNz.out 2
            simp only [List.getElem?_toArray, List.getElem?_cons_zero, List.getElem?_cons_succ] at zz0 zz1 zz2
            go_wp2_with fail
            go_ret2
            exact ⟨by rw [HN.out.1, HN.out.2]; rfl, HB.out⟩
          have hmi : (m : Int) < i := by omega
          have hm0 : (0 : Int) ≤ m := by omega
          have HML := Lib.hid hml
          obtain ⟨b1, off1, hbe, hb1, c1⟩ := HCZ.out m (by omega)
          cases hbe
          have hcb : CB = true := by have h := hBB.out.symm; rw [Bool.and_eq_true] at h; exact h.1
          have hzi : -300 ≤ ZI ∧ ZI ≤ 300 := by have h1 := HCB.out hcb; have h2 := HSBB.out; omega
          have hzm := HPV.out m hml
          have HST : Hid ((CB && (List.range (m + 1)).all fun k => ciB (ZI - zl.getD k 0) (-(frI z7 (zt + k) T)) (frI z7 (zt + k) T)) = ciB (ZI - zl.getD m 0) (-(frI z7 (zt + m) T)) (frI z7 (zt + m) T)) := Lib.hid (by
            rw [all_rg, ← Bool.and_assoc, ← hBB.out, Bool.true_and])
          have htt := HTT.out
          have htb := HTB.out
          have HFM := Lib.hid (fun w' => HFA.out (zt + m) T w' ⟨by omega, by omega⟩ htb)
          have hfb := (fr_mul (dr := z7) (s := zt + m) (t := T) (by omega) ⟨by omega, by omega⟩ htb).2
          obtain ⟨ZM, hZM⟩ : ∃ q, zl.getD m 0 = q := ⟨_, rfl⟩
          rw [hZM] at HST hzm c1
          obtain ⟨D, hD⟩ : ∃ q, frI z7 (zt + m) T = q := ⟨_, rfl⟩
          try simp only at HFM
          rw [hD] at HST HFM hfb
          obtain ⟨TM, hTM⟩ : ∃ q, zt + (m : Int) = q := ⟨_, rfl⟩
          rw [hTM] at HFM
          have gt1 : IntKind.i64.wrap (zt + (m : Int)) = TM := by rw [hTM]; exact IntWalk.i64_in _ (by omega)
          have gt2 : IntKind.i64.wrap (zt + (i : Int)) = T := by rw [htt]; exact IntWalk.i64_in _ (by omega)
          have gt3 : IntKind.i64.wrap (ZI - ZM) = ZI - ZM := IntWalk.i64_in _ (by omega)
          have gt4 : IntKind.i64.wrap (-D) = -D := IntWalk.i64_in _ (by omega)
          have HWM := Lib.hid (fun w' => pwithin_any (ZI - ZM) (-D) D w')
          obtain ⟨NB, hNB⟩ : ∃ q, ciB (ZI - ZM) (-D) D = q := ⟨_, rfl⟩
          rw [hNB] at HST HWM
          have HCM := Lib.hid (show b0 < w.heap.size ∧ w.cell? ⟨b0, off0 + m, none⟩ = some (.int .i64 ZM) from ⟨hb1, c1⟩)
          clear hBB hcb hzi hzm htt htb hZM hD hTM hNB hb1 c1 hfb
          have zz0 := cellH HNz.out 0
          have zz1 := cellH HNz.out 1
          have zz2 := cellH HNz.out 2
          have zx0 := cellH HNx.out 0
          have zx1 := cellH HNx.out 1
          have zx2 := cellH HNx.out 2
          have zx3 := cellH HNx.out 3
          have zx4 := cellH HNx.out 4
          have zx5 := cellH HNx.out 5
          have zx6 := cellH HNx.out 6
          have zx7 := cellH HNx.out 7
          simp only [List.getElem?_toArray, List.getElem?_cons_zero, List.getElem?_cons_succ] at zz0 zz1 zz2 zx0 zx1 zx2 zx3 zx4 zx5 zx6 zx7
          go_wp2_with fail
          refine (HFM.out _).mono ?_
          rintro e w14 ⟨rfl, hb⟩
          clear zz0 zz1 zz2 zx0 zx1 zx2 zx3 zx4 zx5 zx6 zx7
          replace HB := Lib.hid (HB.out.trans (hb.mono HB.out.size))
          replace HNz := Lib.hid ((hb.block _ (Array.getElem?_eq_some_iff.1 HNz.out).1).trans HNz.out)
          replace HNx := Lib.hid ((hb.block _ (Array.getElem?_eq_some_iff.1 HNx.out).1).trans HNx.out)
          replace HNsp := Lib.hid ((hb.block _ (Array.getElem?_eq_some_iff.1 HNsp.out).1).trans HNsp.out)
          replace HT := Lib.hid (HT.out.keep hb)
          clear hb HFM
          have e0 := (HB.out.cell (p := ⟨b0, _, none⟩) HC0.out.1).trans HC0.out.2
          have e1 := (HB.out.cell (p := ⟨b0, _, none⟩) HCM.out.1).trans HCM.out.2
          have hki : (i : Int) < zl.length := by omega
          have hmz : (m : Int) < zl.length := by omega
          have hk0 : (0 : Int) ≤ i := by omega
          have zz0 := cellH HNz.out 0
          have zz1 := cellH HNz.out 1
          have zz2 := cellH HNz.out 2
          simp only [List.getElem?_toArray, List.getElem?_cons_zero, List.getElem?_cons_succ] at zz0 zz1 zz2
          go_wp2_with fail
          go_quiet ((go_at_call 43; with_reducible exact Calls.quiet_of_same (HWM.out _)))
          obtain ⟨wp, hwp⟩ : ∃ q, w14.drewN nq = q := ⟨_, rfl⟩
          have hbq : Below w14.heap.size w14 wp := by rw [← hwp]; exact belowN (Below.refl _ _) _
          rw [hwp]
          clear hwp
          clear zz0 zz1 zz2
          clear e0 e1 gt1 gt2 gt3 gt4
          replace HB := Lib.hid (HB.out.trans (hbq.mono HB.out.size))
          replace HNz := Lib.hid ((hbq.block _ (Array.getElem?_eq_some_iff.1 HNz.out).1).trans HNz.out)
          replace HNx := Lib.hid ((hbq.block _ (Array.getElem?_eq_some_iff.1 HNx.out).1).trans HNx.out)
          replace HNsp := Lib.hid ((hbq.block _ (Array.getElem?_eq_some_iff.1 HNsp.out).1).trans HNsp.out)
          replace HT := Lib.hid (HT.out.keep hbq)
          clear hbq
          go_wp2_with fail
          go_roundw
          case rel => exact ⟨m + 1, NB, HML.out, rfl, by go_num, Lib.hid HST.out.symm, HB, HNz, HNx, HNsp, HT⟩
          case measure => have := HML.out; simp [intOf]; omega
      · obtain rfl : i = zl.length := by omega
        have HN := Lib.hid (F6.out hN.out)
        have hki : ¬ (zl.length : Int) < zl.length := by omega
        clear hil hi
        have zz0 := cellH HNz.out 0
        have zz1 := cellH HNz.out 1
        have zz2 := cellH HNz.out 2
        simp only [List.getElem?_toArray, List.getElem?_cons_zero, List.getElem?_cons_succ] at zz0 zz1 zz2
        go_wp2_with fail
        go_ret2
        exact ⟨by rw [HN.out.1, HN.out.2]; rfl, HB.out⟩
end Go.Proofs.YtebdboacmeafaaaGreat
