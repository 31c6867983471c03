/- Package circle: Fits. -/
import Derived.Test.YtebdboacmeafaaaGreatCI6
set_option linter.unusedVariables false
set_option linter.unusedSimpArgs false
namespace Go.Proofs.YtebdboacmeafaaaGreat
open Go Go.RowKit

/-- What Fits answers. -/
def ftR (cs : List Ci) (ks : List Ck) (zc zt : Int) (zl : List Int) : Int × Bool :=
  if ccE cs ks = 0 then
    (match ciF cs zc with
    | none => (-1, false)
    | some z => if (ciB (zl.length : Int) 1 400 && ciB zt z.f (z.t - ((zl.length : Int) - 1))) = true then
        (if ctB z.dr (dlL z ks) = true then (zt, false) else
          (match (List.range zl.length).find? (fun i => !fiB z.dr (dlL z ks) zt zl i) with
          | none => (-1, true)
          | some i => (zt + i, false)))
        else (-1, false))
  else (-1, false)
section
variable {cs : List Ci} {ks : List Ck} {zc zt : Int} {zl : List Int}
theorem ft_bad (h : ccE cs ks ≠ 0) : ftR cs ks zc zt zl = (-1, false) := by unfold ftR; rw [if_neg h]
theorem ft_none (h : ccE cs ks = 0) (h2 : ciF cs zc = none) : ftR cs ks zc zt zl = (-1, false) := by unfold ftR; rw [if_pos h, h2]
theorem ft_out (h : ccE cs ks = 0) {z : Ci} (h2 : ciF cs zc = some z) (h3 : (ciB (zl.length : Int) 1 400 && ciB zt z.f (z.t - ((zl.length : Int) - 1))) = false) : ftR cs ks zc zt zl = (-1, false) := by
  unfold ftR; rw [if_pos h, h2]; simp only; rw [if_neg (by rw [h3]; simp)]
theorem ft_clash (h : ccE cs ks = 0) {z : Ci} (h2 : ciF cs zc = some z) (h3 : (ciB (zl.length : Int) 1 400 && ciB zt z.f (z.t - ((zl.length : Int) - 1))) = true) (h4 : ctB z.dr (dlL z ks) = true) : ftR cs ks zc zt zl = (zt, false) := by
  unfold ftR; rw [if_pos h, h2]; simp only; rw [if_pos h3, if_pos h4]
theorem ft_not (h : ccE cs ks = 0) {z : Ci} (h2 : ciF cs zc = some z) (h3 : (ciB (zl.length : Int) 1 400 && ciB zt z.f (z.t - ((zl.length : Int) - 1))) = true) (h4 : ctB z.dr (dlL z ks) = false) {k : Nat} (hk : k < zl.length) (h5 : ∀ j, j < k → fiB z.dr (dlL z ks) zt zl j = true) (h6 : fiB z.dr (dlL z ks) zt zl k = false) : ftR cs ks zc zt zl = (zt + k, false) := by
  have h7 : (List.range zl.length).find? (fun i => !fiB z.dr (dlL z ks) zt zl i) = some k := by
    rw [List.find?_eq_some_iff_getElem]
    refine ⟨by rw [h6]; rfl, k, by simpa using hk, by simp, fun j hj => ?_⟩
    rw [List.getElem_range, h5 j hj]; rfl
  unfold ftR; rw [if_pos h, h2]; simp only; rw [if_pos h3, if_neg (by rw [h4]; simp), h7]
theorem ft_yes (h : ccE cs ks = 0) {z : Ci} (h2 : ciF cs zc = some z) (h3 : (ciB (zl.length : Int) 1 400 && ciB zt z.f (z.t - ((zl.length : Int) - 1))) = true) (h4 : ctB z.dr (dlL z ks) = false) (h5 : ∀ j, j < zl.length → fiB z.dr (dlL z ks) zt zl j = true) : ftR cs ks zc zt zl = (-1, true) := by
  have h7 : (List.range zl.length).find? (fun i => !fiB z.dr (dlL z ks) zt zl i) = none := by
    rw [List.find?_eq_none]
    intro j hj
    rw [h5 j (List.mem_range.1 hj)]; simp
  unfold ftR; rw [if_pos h, h2]; simp only; rw [if_pos h3, if_neg (by rw [h4]; simp), h7]
end
set_option maxRecDepth 100000 in
set_option maxHeartbeats 8000000 in
theorem Fits_any (v1 v2 zv : Value) (cs : List Ci) (ks : List Ck) (zc zt : Int) (zl : List Int) (w : World) (hv1 : CiRow w v1 cs) (hv2 : CkRow w v2 ks) (hz : INRow w zv zl) (hcap : P2Cap zv) (hl1 : cs.length ≤ 9223372036854775807) (hl2 : ks.length ≤ 9223372036854775807) (hzl : zl.length ≤ 9223372036854775807) (hzt : -9223372036854775808 ≤ zt ∧ zt ≤ 9223372036854775807) :
    Calls Tryz.prog 18 #[.agg #[v1, v2], .agg #[.int .i64 zc, .int .i64 zt, zv]] w fun e w' => e = .returned (.tuple #[.int .i64 (ftR cs ks zc zt zl).1, .bool (ftR cs ks zc zt zl).2]) ∧ Below w.heap.size w w' := by
  obtain ⟨a1, c1, rfl, _⟩ := hv1.form
  obtain ⟨a2, c2, rfl, _⟩ := hv2.form
  obtain ⟨za, zcp, rfl, hcz⟩ := hz.form
  have HZZ := Lib.hid hz
  have HCP := Lib.hid hcap
  have HZL := Lib.hid hzl
  have HZT := Lib.hid hzt
  have HCH := Lib.hid (fun w' (h : Below w.heap.size w w') => cCheck_any (.slice a1 cs.length c1) (.slice a2 ks.length c2) cs ks w' (hv1.keep h) (hv2.keep h) hl1 hl2)
  have HDO := Lib.hid (fun (ho : CcOk cs ks) w' (h : Below w.heap.size w w') => dialOf_one (.slice a1 cs.length c1) (.slice a2 ks.length c2) cs ks zc w' (hv1.keep h) (hv2.keep h) ho)
  have HOK := Lib.hid (ccE_ok (cs := cs) (ks := ks))
  have HTT := Lib.hid (fun (ho : CcOk cs ks) z h => dlL_ok ho (id := zc) (z := z) h)
  have HCI := Lib.hid (fun (ho : CcOk cs ks) z h => ciF_ok ho (id := zc) (z := z) h)
  have HLE := Lib.hid (fun (ho : CcOk cs ks) z => dlL_len ho z)
  have PR : ∀ {a : Int × Bool} {x : Int} {y : Bool}, a = (x, y) → a.1 = x ∧ a.2 = y := fun h => by rw [h]; exact ⟨rfl, rfl⟩
  have F1 := Lib.hid (fun h => PR (ft_bad (cs := cs) (ks := ks) (zc := zc) (zt := zt) (zl := zl) h))
  have F2 := Lib.hid (fun h h2 => PR (ft_none (cs := cs) (ks := ks) (zc := zc) (zt := zt) (zl := zl) h h2))
  have F3 := Lib.hid (fun h (z : Ci) h2 h3 => PR (ft_out (cs := cs) (ks := ks) (zc := zc) (zt := zt) (zl := zl) h (z := z) h2 h3))
  have F4 := Lib.hid (fun h (z : Ci) h2 h3 h4 => PR (ft_clash (cs := cs) (ks := ks) (zc := zc) (zt := zt) (zl := zl) h (z := z) h2 h3 h4))
  have F5 := Lib.hid (fun h (z : Ci) h2 h3 h4 k hk h5 h6 => PR (ft_not (cs := cs) (ks := ks) (zc := zc) (zt := zt) (zl := zl) h (z := z) h2 h3 h4 (k := k) hk h5 h6))
  have F6 := Lib.hid (fun h (z : Ci) h2 h3 h4 h5 => PR (ft_yes (cs := cs) (ks := ks) (zc := zc) (zt := zt) (zl := zl) h (z := z) h2 h3 h4 h5))
  clear PR
  unfold DlOut at HDO
  obtain ⟨RN, hR⟩ : ∃ q, (ftR cs ks zc zt zl).1 = q := ⟨_, rfl⟩
  obtain ⟨RB, hRB⟩ : ∃ q, (ftR cs ks zc zt zl).2 = q := ⟨_, rfl⟩
  obtain ⟨E, hE⟩ : ∃ q, ccE cs ks = q := ⟨_, rfl⟩
  obtain ⟨F, hF⟩ : ∃ q, ciF cs zc = q := ⟨_, rfl⟩
  rw [hR, hRB, hE] at F1
  simp only [hR, hRB, hE] at F2 F3 F4 F5 F6
  simp only [hF] at F2 F3 F4 F5 F6 HTT HCI
  rw [hF] at HDO
  rw [hE] at HCH HOK
  rw [hR, hRB]
  clear hRB hv1 hv2 hz hcap hl1 hl2 hzl hzt hcz hR hE hF
  obtain ⟨x0, x1, xlt, xb⟩ := two_cells w #[.slice a1 cs.length c1, .slice a2 ks.length c2] #[.int .i64 zc, .int .i64 zt, .slice za zl.length zcp] 25 38 (Below.refl _ _)
  have HNc : Hid (((w.alloc (.cells #[.slice a1 cs.length c1, .slice a2 ks.length c2] 25)).alloc (.cells #[.int .i64 zc, .int .i64 zt, .slice za zl.length zcp] 38)).heap[w.heap.size]? = some (.cells #[.slice a1 cs.length c1, .slice a2 ks.length c2] 25 (0, 0))) := Lib.hid x0
  have HNz : Hid (((w.alloc (.cells #[.slice a1 cs.length c1, .slice a2 ks.length c2] 25)).alloc (.cells #[.int .i64 zc, .int .i64 zt, .slice za zl.length zcp] 38)).heap[w.heap.size + 1]? = some (.cells #[.int .i64 zc, .int .i64 zt, .slice za zl.length zcp] 38 (0, 0))) := Lib.hid x1
  have HB : Hid (Below w.heap.size w ((w.alloc (.cells #[.slice a1 cs.length c1, .slice a2 ks.length c2] 25)).alloc (.cells #[.int .i64 zc, .int .i64 zt, .slice za zl.length zcp] 38))) := Lib.hid xb
  obtain ⟨Z, hZ⟩ : ∃ Z, ((w.alloc (.cells #[.slice a1 cs.length c1, .slice a2 ks.length c2] 25)).alloc (.cells #[.int .i64 zc, .int .i64 zt, .slice za zl.length zcp] 38)) = Z := ⟨_, rfl⟩
  rw [hZ] at HB HNc HNz
  have HZ := Lib.hid hZ
  clear hZ xlt xb x0 x1
  go_enter Tryz.func18, Tryz.ntmps18
  go_wp2_with fail
  rw [HZ.out]
  refine (HCH.out _ HB.out).mono ?_
  rintro e w1 ⟨rfl, hb⟩
  replace HB := Lib.hid (HB.out.trans (hb.mono HB.out.size))
  replace HNc := Lib.hid ((hb.block _ (Array.getElem?_eq_some_iff.1 HNc.out).1).trans HNc.out)
  replace HNz := Lib.hid ((hb.block _ (Array.getElem?_eq_some_iff.1 HNz.out).1).trans HNz.out)
  clear hb
  by_cases h0 : E = 0
  case neg =>
    have HN := Lib.hid (F1.out h0)
    have gE : (E != 0) = true := by simpa using h0
    clear h0
    go_wp2_with fail
    go_ret2
    exact ⟨by rw [HN.out.1, HN.out.2]; rfl, HB.out⟩
  subst h0
  have HO := Lib.hid (HOK.out rfl)
  have HDO2 := Lib.hid (HDO.out HO.out)
  replace F2 := Lib.hid (F2.out rfl)
  replace F3 := Lib.hid (F3.out rfl)
  replace F4 := Lib.hid (F4.out rfl)
  replace F5 := Lib.hid (F5.out rfl)
  replace F6 := Lib.hid (F6.out rfl)
  clear F1 HOK HDO
  have zc0 := cellH HNc.out 0
  have zc1 := cellH HNc.out 1
  have zz0 := cellH HNz.out 0
  have zz1 := cellH HNz.out 1
  have zz2 := cellH HNz.out 2
  simp only [List.getElem?_toArray, List.getElem?_cons_zero, List.getElem?_cons_succ] at zc0 zc1 zz0 zz1 zz2
  go_wp2_with fail
  refine (HDO2.out _ HB.out).mono ?_
  rintro e w2 ⟨hb, hd⟩
  clear zc0 zc1 zz0 zz1 zz2
  replace HB := Lib.hid (HB.out.trans (hb.mono HB.out.size))
  replace HNc := Lib.hid ((hb.block _ (Array.getElem?_eq_some_iff.1 HNc.out).1).trans HNc.out)
  replace HNz := Lib.hid ((hb.block _ (Array.getElem?_eq_some_iff.1 HNz.out).1).trans HNz.out)
  clear hb
  cases F with
  | none =>
    simp only at hd
    unfold dl0 at hd
    subst hd
    have HN := Lib.hid (F2.out rfl)
    have hAlc : Below w2.heap.size w2 (w2.alloc (.cells #[.int .i64 0, .int .i64 0, .int .i64 0, .int .i64 0, .int .i64 0, .int .i64 0, .int .i64 0, .int .i64 0, .slice none 0 0] 119)) := (Below.refl _ w2).alloc (Nat.le_refl _) _
    have HSd : Hid (w.heap.size ≤ w2.heap.size) := Lib.hid HB.out.size
    have HNd : Hid ((w2.alloc (.cells #[.int .i64 0, .int .i64 0, .int .i64 0, .int .i64 0, .int .i64 0, .int .i64 0, .int .i64 0, .int .i64 0, .slice none 0 0] 119)).heap[w2.heap.size]? = some (.cells #[.int .i64 0, .int .i64 0, .int .i64 0, .int .i64 0, .int .i64 0, .int .i64 0, .int .i64 0, .int .i64 0, .slice none 0 0] 119 (0, 0))) := Lib.hid (heap_alloc_new _ _)
    replace HB := Lib.hid (HB.out.trans (hAlc.mono HB.out.size))
    have HXc_d : Hid (w.heap.size ≠ w2.heap.size) := Lib.hid (Nat.ne_of_lt (Array.getElem?_eq_some_iff.1 HNc.out).1)
    have HXz_d : Hid (w.heap.size + 1 ≠ w2.heap.size) := Lib.hid (Nat.ne_of_lt (Array.getElem?_eq_some_iff.1 HNz.out).1)
    replace HNc := Lib.hid ((hAlc.block _ (Array.getElem?_eq_some_iff.1 HNc.out).1).trans HNc.out)
    replace HNz := Lib.hid ((hAlc.block _ (Array.getElem?_eq_some_iff.1 HNz.out).1).trans HNz.out)
    obtain ⟨ad, had⟩ : ∃ qq, w2.alloc (.cells #[.int .i64 0, .int .i64 0, .int .i64 0, .int .i64 0, .int .i64 0, .int .i64 0, .int .i64 0, .int .i64 0, .slice none 0 0] 119) = qq := ⟨_, rfl⟩
    obtain ⟨bkd, hbd⟩ : ∃ qq, w2.heap.size = qq := ⟨_, rfl⟩
    rw [had] at HB HNd HNc HNz
    rw [hbd] at HNd HSd HXc_d HXz_d
    clear hAlc
    have zd0 := cellH HNd.out 0
    have zd1 := cellH HNd.out 1
    have zd2 := cellH HNd.out 2
    have zd3 := cellH HNd.out 3
    have zd4 := cellH HNd.out 4
    have zd5 := cellH HNd.out 5
    have zd6 := cellH HNd.out 6
    have zd7 := cellH HNd.out 7
    have zd8 := cellH HNd.out 8
    simp only [List.getElem?_toArray, List.getElem?_cons_zero, List.getElem?_cons_succ] at zd0 zd1 zd2 zd3 zd4 zd5 zd6 zd7 zd8
    have zfd := freeH HNd.out
    replace HNc := Lib.hid ((heap_other ad (bkd) 0 (.int .i64 0) _ HXc_d.out).trans HNc.out)
    replace HNz := Lib.hid ((heap_other ad (bkd) 0 (.int .i64 0) _ HXz_d.out).trans HNz.out)
    replace HNd := Lib.hid (heap_same HNd.out 0 (.int .i64 0))
    simp only [List.setIfInBounds_toArray, List.set_cons_zero, List.set_cons_succ] at HNd
    replace HB := Lib.hid (HB.out.setCell (p := ⟨bkd, 0, none⟩) HSd.out (.int .i64 0))
    obtain ⟨s3, hs3⟩ : ∃ X, ad.setCell ⟨bkd, 0, none⟩ (.int .i64 0) = X := ⟨_, rfl⟩
    rw [hs3] at HB HNc HNz HNd
    have zd0_3 := cellH HNd.out 0
    have zd1_3 := cellH HNd.out 1
    have zd2_3 := cellH HNd.out 2
    have zd3_3 := cellH HNd.out 3
    have zd4_3 := cellH HNd.out 4
    have zd5_3 := cellH HNd.out 5
    have zd6_3 := cellH HNd.out 6
    have zd7_3 := cellH HNd.out 7
    have zd8_3 := cellH HNd.out 8
    simp only [List.getElem?_toArray, List.getElem?_cons_zero, List.getElem?_cons_succ] at zd0_3 zd1_3 zd2_3 zd3_3 zd4_3 zd5_3 zd6_3 zd7_3 zd8_3
    have zfd_3 := freeH HNd.out
    replace HNc := Lib.hid ((heap_other s3 (bkd) 1 (.int .i64 0) _ HXc_d.out).trans HNc.out)
    replace HNz := Lib.hid ((heap_other s3 (bkd) 1 (.int .i64 0) _ HXz_d.out).trans HNz.out)
    replace HNd := Lib.hid (heap_same HNd.out 1 (.int .i64 0))
    simp only [List.setIfInBounds_toArray, List.set_cons_zero, List.set_cons_succ] at HNd
    replace HB := Lib.hid (HB.out.setCell (p := ⟨bkd, 1, none⟩) HSd.out (.int .i64 0))
    obtain ⟨s4, hs4⟩ : ∃ X, s3.setCell ⟨bkd, 1, none⟩ (.int .i64 0) = X := ⟨_, rfl⟩
    rw [hs4] at HB HNc HNz HNd
    have zd0_4 := cellH HNd.out 0
    have zd1_4 := cellH HNd.out 1
    have zd2_4 := cellH HNd.out 2
    have zd3_4 := cellH HNd.out 3
    have zd4_4 := cellH HNd.out 4
    have zd5_4 := cellH HNd.out 5
    have zd6_4 := cellH HNd.out 6
    have zd7_4 := cellH HNd.out 7
    have zd8_4 := cellH HNd.out 8
    simp only [List.getElem?_toArray, List.getElem?_cons_zero, List.getElem?_cons_succ] at zd0_4 zd1_4 zd2_4 zd3_4 zd4_4 zd5_4 zd6_4 zd7_4 zd8_4
    have zfd_4 := freeH HNd.out
    replace HNc := Lib.hid ((heap_other s4 (bkd) 2 (.int .i64 0) _ HXc_d.out).trans HNc.out)
    replace HNz := Lib.hid ((heap_other s4 (bkd) 2 (.int .i64 0) _ HXz_d.out).trans HNz.out)
    replace HNd := Lib.hid (heap_same HNd.out 2 (.int .i64 0))
    simp only [List.setIfInBounds_toArray, List.set_cons_zero, List.set_cons_succ] at HNd
    replace HB := Lib.hid (HB.out.setCell (p := ⟨bkd, 2, none⟩) HSd.out (.int .i64 0))
    obtain ⟨s5, hs5⟩ : ∃ X, s4.setCell ⟨bkd, 2, none⟩ (.int .i64 0) = X := ⟨_, rfl⟩
    rw [hs5] at HB HNc HNz HNd
    have zd0_5 := cellH HNd.out 0
    have zd1_5 := cellH HNd.out 1
    have zd2_5 := cellH HNd.out 2
    have zd3_5 := cellH HNd.out 3
    have zd4_5 := cellH HNd.out 4
    have zd5_5 := cellH HNd.out 5
    have zd6_5 := cellH HNd.out 6
    have zd7_5 := cellH HNd.out 7
    have zd8_5 := cellH HNd.out 8
    simp only [List.getElem?_toArray, List.getElem?_cons_zero, List.getElem?_cons_succ] at zd0_5 zd1_5 zd2_5 zd3_5 zd4_5 zd5_5 zd6_5 zd7_5 zd8_5
    have zfd_5 := freeH HNd.out
    replace HNc := Lib.hid ((heap_other s5 (bkd) 3 (.int .i64 0) _ HXc_d.out).trans HNc.out)
    replace HNz := Lib.hid ((heap_other s5 (bkd) 3 (.int .i64 0) _ HXz_d.out).trans HNz.out)
    replace HNd := Lib.hid (heap_same HNd.out 3 (.int .i64 0))
    simp only [List.setIfInBounds_toArray, List.set_cons_zero, List.set_cons_succ] at HNd
    replace HB := Lib.hid (HB.out.setCell (p := ⟨bkd, 3, none⟩) HSd.out (.int .i64 0))
    obtain ⟨s6, hs6⟩ : ∃ X, s5.setCell ⟨bkd, 3, none⟩ (.int .i64 0) = X := ⟨_, rfl⟩
    rw [hs6] at HB HNc HNz HNd
    have zd0_6 := cellH HNd.out 0
    have zd1_6 := cellH HNd.out 1
    have zd2_6 := cellH HNd.out 2
    have zd3_6 := cellH HNd.out 3
    have zd4_6 := cellH HNd.out 4
    have zd5_6 := cellH HNd.out 5
    have zd6_6 := cellH HNd.out 6
    have zd7_6 := cellH HNd.out 7
    have zd8_6 := cellH HNd.out 8
    simp only [List.getElem?_toArray, List.getElem?_cons_zero, List.getElem?_cons_succ] at zd0_6 zd1_6 zd2_6 zd3_6 zd4_6 zd5_6 zd6_6 zd7_6 zd8_6
    have zfd_6 := freeH HNd.out
    replace HNc := Lib.hid ((heap_other s6 (bkd) 4 (.int .i64 0) _ HXc_d.out).trans HNc.out)
    replace HNz := Lib.hid ((heap_other s6 (bkd) 4 (.int .i64 0) _ HXz_d.out).trans HNz.out)
    replace HNd := Lib.hid (heap_same HNd.out 4 (.int .i64 0))
    simp only [List.setIfInBounds_toArray, List.set_cons_zero, List.set_cons_succ] at HNd
    replace HB := Lib.hid (HB.out.setCell (p := ⟨bkd, 4, none⟩) HSd.out (.int .i64 0))
    obtain ⟨s7, hs7⟩ : ∃ X, s6.setCell ⟨bkd, 4, none⟩ (.int .i64 0) = X := ⟨_, rfl⟩
    rw [hs7] at HB HNc HNz HNd
    have zd0_7 := cellH HNd.out 0
    have zd1_7 := cellH HNd.out 1
    have zd2_7 := cellH HNd.out 2
    have zd3_7 := cellH HNd.out 3
    have zd4_7 := cellH HNd.out 4
    have zd5_7 := cellH HNd.out 5
    have zd6_7 := cellH HNd.out 6
    have zd7_7 := cellH HNd.out 7
    have zd8_7 := cellH HNd.out 8
    simp only [List.getElem?_toArray, List.getElem?_cons_zero, List.getElem?_cons_succ] at zd0_7 zd1_7 zd2_7 zd3_7 zd4_7 zd5_7 zd6_7 zd7_7 zd8_7
    have zfd_7 := freeH HNd.out
    replace HNc := Lib.hid ((heap_other s7 (bkd) 5 (.int .i64 0) _ HXc_d.out).trans HNc.out)
    replace HNz := Lib.hid ((heap_other s7 (bkd) 5 (.int .i64 0) _ HXz_d.out).trans HNz.out)
    replace HNd := Lib.hid (heap_same HNd.out 5 (.int .i64 0))
    simp only [List.setIfInBounds_toArray, List.set_cons_zero, List.set_cons_succ] at HNd
    replace HB := Lib.hid (HB.out.setCell (p := ⟨bkd, 5, none⟩) HSd.out (.int .i64 0))
    obtain ⟨s8, hs8⟩ : ∃ X, s7.setCell ⟨bkd, 5, none⟩ (.int .i64 0) = X := ⟨_, rfl⟩
    rw [hs8] at HB HNc HNz HNd
    have zd0_8 := cellH HNd.out 0
    have zd1_8 := cellH HNd.out 1
    have zd2_8 := cellH HNd.out 2
    have zd3_8 := cellH HNd.out 3
    have zd4_8 := cellH HNd.out 4
    have zd5_8 := cellH HNd.out 5
    have zd6_8 := cellH HNd.out 6
    have zd7_8 := cellH HNd.out 7
    have zd8_8 := cellH HNd.out 8
    simp only [List.getElem?_toArray, List.getElem?_cons_zero, List.getElem?_cons_succ] at zd0_8 zd1_8 zd2_8 zd3_8 zd4_8 zd5_8 zd6_8 zd7_8 zd8_8
    have zfd_8 := freeH HNd.out
    replace HNc := Lib.hid ((heap_other s8 (bkd) 6 (.int .i64 0) _ HXc_d.out).trans HNc.out)
    replace HNz := Lib.hid ((heap_other s8 (bkd) 6 (.int .i64 0) _ HXz_d.out).trans HNz.out)
    replace HNd := Lib.hid (heap_same HNd.out 6 (.int .i64 0))
    simp only [List.setIfInBounds_toArray, List.set_cons_zero, List.set_cons_succ] at HNd
    replace HB := Lib.hid (HB.out.setCell (p := ⟨bkd, 6, none⟩) HSd.out (.int .i64 0))
    obtain ⟨s9, hs9⟩ : ∃ X, s8.setCell ⟨bkd, 6, none⟩ (.int .i64 0) = X := ⟨_, rfl⟩
    rw [hs9] at HB HNc HNz HNd
    have zd0_9 := cellH HNd.out 0
    have zd1_9 := cellH HNd.out 1
    have zd2_9 := cellH HNd.out 2
    have zd3_9 := cellH HNd.out 3
    have zd4_9 := cellH HNd.out 4
    have zd5_9 := cellH HNd.out 5
    have zd6_9 := cellH HNd.out 6
    have zd7_9 := cellH HNd.out 7
    have zd8_9 := cellH HNd.out 8
    simp only [List.getElem?_toArray, List.getElem?_cons_zero, List.getElem?_cons_succ] at zd0_9 zd1_9 zd2_9 zd3_9 zd4_9 zd5_9 zd6_9 zd7_9 zd8_9
    have zfd_9 := freeH HNd.out
    replace HNc := Lib.hid ((heap_other s9 (bkd) 7 (.int .i64 0) _ HXc_d.out).trans HNc.out)
    replace HNz := Lib.hid ((heap_other s9 (bkd) 7 (.int .i64 0) _ HXz_d.out).trans HNz.out)
    replace HNd := Lib.hid (heap_same HNd.out 7 (.int .i64 0))
    simp only [List.setIfInBounds_toArray, List.set_cons_zero, List.set_cons_succ] at HNd
    replace HB := Lib.hid (HB.out.setCell (p := ⟨bkd, 7, none⟩) HSd.out (.int .i64 0))
    obtain ⟨s10, hs10⟩ : ∃ X, s9.setCell ⟨bkd, 7, none⟩ (.int .i64 0) = X := ⟨_, rfl⟩
    rw [hs10] at HB HNc HNz HNd
    have zd0_10 := cellH HNd.out 0
    have zd1_10 := cellH HNd.out 1
    have zd2_10 := cellH HNd.out 2
    have zd3_10 := cellH HNd.out 3
    have zd4_10 := cellH HNd.out 4
    have zd5_10 := cellH HNd.out 5
    have zd6_10 := cellH HNd.out 6
    have zd7_10 := cellH HNd.out 7
    have zd8_10 := cellH HNd.out 8
    simp only [List.getElem?_toArray, List.getElem?_cons_zero, List.getElem?_cons_succ] at zd0_10 zd1_10 zd2_10 zd3_10 zd4_10 zd5_10 zd6_10 zd7_10 zd8_10
    have zfd_10 := freeH HNd.out
    replace HNc := Lib.hid ((heap_other s10 (bkd) 8 (.slice none 0 0) _ HXc_d.out).trans HNc.out)
    replace HNz := Lib.hid ((heap_other s10 (bkd) 8 (.slice none 0 0) _ HXz_d.out).trans HNz.out)
    replace HNd := Lib.hid (heap_same HNd.out 8 (.slice none 0 0))
    simp only [List.setIfInBounds_toArray, List.set_cons_zero, List.set_cons_succ] at HNd
    replace HB := Lib.hid (HB.out.setCell (p := ⟨bkd, 8, none⟩) HSd.out (.slice none 0 0))
    obtain ⟨s11, hs11⟩ : ∃ X, s10.setCell ⟨bkd, 8, none⟩ (.slice none 0 0) = X := ⟨_, rfl⟩
    rw [hs11] at HB HNc HNz HNd
    have zz0_11 := cellH HNz.out 0
    have zz1_11 := cellH HNz.out 1
    have zz2_11 := cellH HNz.out 2
    have zd0_11 := cellH HNd.out 0
    have zd1_11 := cellH HNd.out 1
    have zd2_11 := cellH HNd.out 2
    have zd3_11 := cellH HNd.out 3
    have zd4_11 := cellH HNd.out 4
    have zd5_11 := cellH HNd.out 5
    have zd6_11 := cellH HNd.out 6
    have zd7_11 := cellH HNd.out 7
    have zd8_11 := cellH HNd.out 8
    simp only [List.getElem?_toArray, List.getElem?_cons_zero, List.getElem?_cons_succ] at zz0_11 zz1_11 zz2_11 zd0_11 zd1_11 zd2_11 zd3_11 zd4_11 zd5_11 zd6_11 zd7_11 zd8_11
    go_wp2_with fail
    go_ret2
    exact ⟨by rw [HN.out.1, HN.out.2]; rfl, HB.out⟩
  | some z =>
    simp only at hd
    obtain ⟨v, rfl, hr, hO⟩ := hd
    have hOO := hO
    obtain ⟨g, n, cap, _, rfl, _⟩ := hOO
    have hzo := Ci.ok_iff.1 (HCI.out HO.out z rfl)
    have HTO := Lib.hid (HTT.out HO.out z rfl)
    have HLL := Lib.hid (HLE.out HO.out z)
    replace F3 := Lib.hid (F3.out z rfl)
    replace F4 := Lib.hid (F4.out z rfl)
    replace F5 := Lib.hid (F5.out z rfl)
    replace F6 := Lib.hid (F6.out z rfl)
    obtain ⟨L, hL⟩ : ∃ q, dlL z ks = q := ⟨_, rfl⟩
    rw [hL] at F4 F5 F6 HTO HLL hr
    obtain ⟨di, dx, dy, df, dt, dl, dh, dr⟩ := z
    simp only at F3 F4 F5 F6 hzo
    have HDB := Lib.hid (show 0 ≤ df ∧ df ≤ dt ∧ dt ≤ 1048576 ∧ 0 ≤ dr ∧ dr ≤ 60 by omega)
    have HR := Lib.hid hr
    have HT := Lib.hid hO
    have HCT := Lib.hid (fun w' h1 h2 => contradicted_any ⟨di, dx, dy, df, dt, dl, dh, dr⟩ (.slice (some ⟨g, 0, none⟩) n cap) L w' h1 h2 (by have := HLL.out; omega) (by have := HDB.out; simp only; omega) HTO.out)
    have HFI := Lib.hid (fun (i : Nat) w' (h : Below w.heap.size w w') h1 (hn : zl.length ≤ 400) hi h0 h2 hp => fits_any ⟨di, dx, dy, df, dt, dl, dh, dr⟩ (.slice (some ⟨g, 0, none⟩) n cap) (.slice za zl.length zcp) L zc zt zl i w' h1 (by have := HLL.out; omega) (by have := HDB.out; simp only; omega) HTO.out (INRow.keep HZZ.out h) HCP.out (by omega) hi h0 h2 hp)
    have HSB := Lib.hid (fun t ht => sp_bd (dr := dr) (l := L) (t := t) (by have := HDB.out; omega) ht HTO.out)
    have HW1 := Lib.hid (fun w' => qwithin_any (zl.length : Int) 1 400 w')
    have HW2 := Lib.hid (fun w' => qwithin_any zt df (dt - ((zl.length : Int) - 1)) w')
    have HC1 := Lib.hid (fun h => ci_iff (n := (zl.length : Int)) (a := 1) (b := 400) |>.1 h)
    have HC2 := Lib.hid (fun h => ci_iff (n := zt) (a := df) (b := dt - ((zl.length : Int) - 1)) |>.1 h)
    obtain ⟨C1, hC1⟩ : ∃ q, ciB (zl.length : Int) 1 400 = q := ⟨_, rfl⟩
    obtain ⟨C2, hC2⟩ : ∃ q, ciB zt df (dt - ((zl.length : Int) - 1)) = q := ⟨_, rfl⟩
    obtain ⟨C3, hC3⟩ : ∃ q, ctB dr L = q := ⟨_, rfl⟩
    rw [hC1] at HW1 HC1 F3 F4 F5 F6
    rw [hC2] at HW2 HC2 F3 F4 F5 F6
    simp only at HCT
    rw [hC3] at HCT F4 F5 F6
    clear hr hO hzo hL hC1 hC2 hC3 HTT HCI HLE F2
    have hAlc : Below w2.heap.size w2 (w2.alloc (.cells #[.int .i64 di, .int .i64 dx, .int .i64 dy, .int .i64 df, .int .i64 dt, .int .i64 dl, .int .i64 dh, .int .i64 dr, .slice (some ⟨g, 0, none⟩) n cap] 119)) := (Below.refl _ w2).alloc (Nat.le_refl _) _
    have HSd : Hid (w.heap.size ≤ w2.heap.size) := Lib.hid HB.out.size
    have HNd : Hid ((w2.alloc (.cells #[.int .i64 di, .int .i64 dx, .int .i64 dy, .int .i64 df, .int .i64 dt, .int .i64 dl, .int .i64 dh, .int .i64 dr, .slice (some ⟨g, 0, none⟩) n cap] 119)).heap[w2.heap.size]? = some (.cells #[.int .i64 di, .int .i64 dx, .int .i64 dy, .int .i64 df, .int .i64 dt, .int .i64 dl, .int .i64 dh, .int .i64 dr, .slice (some ⟨g, 0, none⟩) n cap] 119 (0, 0))) := Lib.hid (heap_alloc_new _ _)
    replace HB := Lib.hid (HB.out.trans (hAlc.mono HB.out.size))
    have HXc_d : Hid (w.heap.size ≠ w2.heap.size) := Lib.hid (Nat.ne_of_lt (Array.getElem?_eq_some_iff.1 HNc.out).1)
    have HXz_d : Hid (w.heap.size + 1 ≠ w2.heap.size) := Lib.hid (Nat.ne_of_lt (Array.getElem?_eq_some_iff.1 HNz.out).1)
    replace HNc := Lib.hid ((hAlc.block _ (Array.getElem?_eq_some_iff.1 HNc.out).1).trans HNc.out)
    replace HNz := Lib.hid ((hAlc.block _ (Array.getElem?_eq_some_iff.1 HNz.out).1).trans HNz.out)
    replace HR := Lib.hid (HR.out.keep hAlc)
    replace HT := Lib.hid (HT.out.keep hAlc)
    obtain ⟨ad, had⟩ : ∃ qq, w2.alloc (.cells #[.int .i64 di, .int .i64 dx, .int .i64 dy, .int .i64 df, .int .i64 dt, .int .i64 dl, .int .i64 dh, .int .i64 dr, .slice (some ⟨g, 0, none⟩) n cap] 119) = qq := ⟨_, rfl⟩
    obtain ⟨bkd, hbd⟩ : ∃ qq, w2.heap.size = qq := ⟨_, rfl⟩
    rw [had] at HB HNd HNc HNz HR HT
    rw [hbd] at HNd HSd HXc_d HXz_d
    clear hAlc
    have zz0 := cellH HNz.out 0
    have zz1 := cellH HNz.out 1
    have zz2 := cellH HNz.out 2
    have zd0 := cellH HNd.out 0
    have zd1 := cellH HNd.out 1
    have zd2 := cellH HNd.out 2
    have zd3 := cellH HNd.out 3
    have zd4 := cellH HNd.out 4
    have zd5 := cellH HNd.out 5
    have zd6 := cellH HNd.out 6
    have zd7 := cellH HNd.out 7
    have zd8 := cellH HNd.out 8
    simp only [List.getElem?_toArray, List.getElem?_cons_zero, List.getElem?_cons_succ] at zz0 zz1 zz2 zd0 zd1 zd2 zd3 zd4 zd5 zd6 zd7 zd8
    go_wp2_with fail
    try clear had hbd
    refine (HW1.out _).mono ?_
    rintro e w8 ⟨rfl, rfl⟩
    cases C1
    · have HN := Lib.hid (F3.out rfl)
      go_wp2_with fail
      go_ret2
      exact ⟨by rw [HN.out.1, HN.out.2]; rfl, HB.out⟩
    · have hc1 := HC1.out rfl
      have hdb := HDB.out
      have hzt := HZT.out
      have gw1 : IntKind.i64.wrap ((zl.length : Int) - 1) = (zl.length : Int) - 1 := IntWalk.i64_in _ (by omega)
      have gw2 : IntKind.i64.wrap (dt - ((zl.length : Int) - 1)) = dt - ((zl.length : Int) - 1) := IntWalk.i64_in _ (by omega)
      have HL4 := Lib.hid (show 1 ≤ zl.length ∧ zl.length ≤ 400 by omega)
      clear HC1 hzt hdb hc1
      go_wp2_with fail
      refine (HW2.out _).mono ?_
      rintro e w9 ⟨rfl, rfl⟩
      clear gw1 gw2
      cases C2
      · have HN := Lib.hid (F3.out rfl)
        go_wp2_with fail
        go_ret2
        exact ⟨by rw [HN.out.1, HN.out.2]; rfl, HB.out⟩
      · have hc2 := HC2.out rfl
        have HZB := Lib.hid (show df ≤ zt ∧ zt ≤ dt - ((zl.length : Int) - 1) from hc2)
        replace F4 := Lib.hid (F4.out rfl)
        replace F5 := Lib.hid (F5.out rfl)
        replace F6 := Lib.hid (F6.out rfl)
        clear HC2 hc2 F3
        go_wp2_with fail
        refine (HCT.out _ HR.out HT.out).mono ?_
        rintro e w112 ⟨rfl, hb⟩
        clear zz0 zz1 zz2 zd0 zd1 zd2 zd3 zd4 zd5 zd6 zd7 zd8
        replace HB := Lib.hid (HB.out.trans (hb.mono HB.out.size))
        replace HNc := Lib.hid ((hb.block _ (Array.getElem?_eq_some_iff.1 HNc.out).1).trans HNc.out)
        replace HNz := Lib.hid ((hb.block _ (Array.getElem?_eq_some_iff.1 HNz.out).1).trans HNz.out)
        replace HNd := Lib.hid ((hb.block _ (Array.getElem?_eq_some_iff.1 HNd.out).1).trans HNd.out)
        replace HR := Lib.hid (HR.out.keep hb)
        replace HT := Lib.hid (HT.out.keep hb)
        clear hb
        have zz0 := cellH HNz.out 0
        have zz1 := cellH HNz.out 1
        have zz2 := cellH HNz.out 2
        simp only [List.getElem?_toArray, List.getElem?_cons_zero, List.getElem?_cons_succ] at zz0 zz1 zz2
        cases C3
        case true =>
          have HN := Lib.hid (F4.out rfl)
          go_wp2_with fail
          go_ret2
          exact ⟨by rw [HN.out.1, HN.out.2]; rfl, HB.out⟩
        replace F5 := Lib.hid (F5.out rfl)
        replace F6 := Lib.hid (F6.out rfl)
        clear F4
        go_wp2_with fail
        clear zz0 zz1 zz2
        go_loopw [52] (fun x wr => ∃ (k : Nat), k ≤ zl.length ∧ x = .int .i64 k ∧ Hid (∀ j, j < k → fiB dr L zt zl j = true) ∧ Hid (Below w.heap.size w wr) ∧ Hid (wr.heap[w.heap.size]? = some (.cells #[.slice a1 cs.length c1, .slice a2 ks.length c2] 25 (0, 0))) ∧ Hid (wr.heap[w.heap.size + 1]? = some (.cells #[.int .i64 zc, .int .i64 zt, .slice za zl.length zcp] 38 (0, 0))) ∧ Hid (wr.heap[bkd]? = some (.cells #[.int .i64 di, .int .i64 dx, .int .i64 dy, .int .i64 df, .int .i64 dt, .int .i64 dl, .int .i64 dh, .int .i64 dr, .slice (some ⟨g, 0, none⟩) n cap] 119 (0, 0))) ∧ Hid (ThRow wr (.slice (some ⟨g, 0, none⟩) n cap) L) ∧ Hid (ThOwn wr (.slice (some ⟨g, 0, none⟩) n cap))) (fun x _ => zl.length - (intOf x).toNat)
        case atStart => exact ⟨0, Nat.zero_le _, rfl, Lib.hid (fun m hm => by omega), HB, HNc, HNz, HNd, HR, HT⟩
        case round =>
          clear HB HNc HNz HNd HR HT
          obtain ⟨k, hk, rfl, hN, HB, HNc, HNz, HNd, HR, HT⟩ := hrel
          have hl4 := HL4.out
          have hdb := HDB.out
          have hzb := HZB.out
          by_cases hkl : k < zl.length
          · have hki : (k : Int) < zl.length := by omega
            have hk0 : (0 : Int) ≤ k := by omega
            have HKL := Lib.hid hkl
            have hprev : ∀ j, j < k → -300 ≤ zl.getD j 0 ∧ zl.getD j 0 ≤ 300 := fun j hj => by
              have h1 := hN.out j hj
              unfold fiB at h1
              rw [Bool.and_eq_true, ci_iff] at h1
              have h2 := HSB.out (zt + j) ⟨by omega, by omega⟩
              omega
            have HFK := Lib.hid (fun w' h h1 => HFI.out k w' h h1 hl4.2 hkl (by omega) (by omega) hprev)
            have HNK := Lib.hid (F5.out k hkl hN.out)
            have HNX : Hid (fiB dr L zt zl k = true → ∀ j, j < k + 1 → fiB dr L zt zl j = true) := Lib.hid (fun h j hj => by
              by_cases e : j = k
              · subst e; exact h
              · exact hN.out j (by omega))
            have gw : IntKind.i64.wrap (zt + (k : Int)) = zt + k := IntWalk.i64_in _ (by omega)
            try simp only at HFK
            obtain ⟨FB, hFB⟩ : ∃ q, fiB dr L zt zl k = q := ⟨_, rfl⟩
            rw [hFB] at HFK HNK HNX
            clear hFB hprev hdb hzb
            have zz0 := cellH HNz.out 0
            have zz1 := cellH HNz.out 1
            have zz2 := cellH HNz.out 2
            have zd0 := cellH HNd.out 0
            have zd1 := cellH HNd.out 1
            have zd2 := cellH HNd.out 2
            have zd3 := cellH HNd.out 3
            have zd4 := cellH HNd.out 4
            have zd5 := cellH HNd.out 5
            have zd6 := cellH HNd.out 6
            have zd7 := cellH HNd.out 7
            have zd8 := cellH HNd.out 8
            simp only [List.getElem?_toArray, List.getElem?_cons_zero, List.getElem?_cons_succ] at zz0 zz1 zz2 zd0 zd1 zd2 zd3 zd4 zd5 zd6 zd7 zd8
            go_wp2_with fail
            refine (HFK.out _ HB.out HR.out).mono ?_
            rintro e w113 ⟨rfl, hb⟩
            clear zz0 zz1 zz2 zd0 zd1 zd2 zd3 zd4 zd5 zd6 zd7 zd8
            replace HB := Lib.hid (HB.out.trans (hb.mono HB.out.size))
            replace HNc := Lib.hid ((hb.block _ (Array.getElem?_eq_some_iff.1 HNc.out).1).trans HNc.out)
            replace HNz := Lib.hid ((hb.block _ (Array.getElem?_eq_some_iff.1 HNz.out).1).trans HNz.out)
            replace HNd := Lib.hid ((hb.block _ (Array.getElem?_eq_some_iff.1 HNd.out).1).trans HNd.out)
            replace HR := Lib.hid (HR.out.keep hb)
            replace HT := Lib.hid (HT.out.keep hb)
            clear hb HFK
            have zz0 := cellH HNz.out 0
            have zz1 := cellH HNz.out 1
            have zz2 := cellH HNz.out 2
            simp only [List.getElem?_toArray, List.getElem?_cons_zero, List.getElem?_cons_succ] at zz0 zz1 zz2
            cases FB
            · have HN := Lib.hid (HNK.out rfl)
              go_wp2_with fail
              go_ret2
              exact ⟨by rw [HN.out.1, HN.out.2]; rfl, HB.out⟩
            · have HN2 := Lib.hid (HNX.out rfl)
              go_wp2_with fail
              go_roundw
              case rel => exact ⟨k + 1, HKL.out, by go_num, HN2, HB, HNc, HNz, HNd, HR, HT⟩
              case measure => have := HKL.out; simp [intOf]; omega
          · obtain rfl : k = zl.length := by omega
            have HN := Lib.hid (F6.out hN.out)
            have hki : ¬ (zl.length : Int) < zl.length := by omega
            clear hkl hk
            go_wp2_with fail
            go_ret2
            exact ⟨by rw [HN.out.1, HN.out.2]; rfl, HB.out⟩
end Go.Proofs.YtebdboacmeafaaaGreat
