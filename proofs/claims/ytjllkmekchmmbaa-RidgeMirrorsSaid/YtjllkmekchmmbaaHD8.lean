/- RidgeMirrors: what is free on a map is free on the map that is turned over, and the least heights are the same. -/
import Derived.Test.YtjllkmekchmmbaaHC3
import Derived.Test.YtjllkmekchmmbaaHD2
import Derived.Test.YtjllkmekchmmbaaHG2
set_option linter.unusedVariables false
set_option linter.unusedSimpArgs false
namespace Go.Proofs.Ytjllkmekchmmbaa
open Go Go.RowKit

theorem ck_bare (wd hg : Int) (g : List Int) : ckE wd hg g [] [] = if vmB wd hg g = true then 0 else 1 := by
  unfold ckE tgE hzB
  simp
set_option maxRecDepth 100000 in
set_option maxHeartbeats 8000000 in
theorem mirrors_law (wd hg : Int) (o : Value) (g : List Int) (h a1 a2 low b1 b2 rise : Int) (w : World) (hv : INRow w o g) (hl : g.length ≤ 9223372036854775807) (h0 : 0 ≤ h ∧ h ≤ 255) :
    Calls Try.prog 7 #[mpV wd hg o, .int .u8 h, .agg #[.int .i64 a1, .int .i64 a2], .int .i64 low, .agg #[.int .i64 b1, .int .i64 b2], .int .i64 rise] w fun e w' => e = .returned (.bool true) ∧ Below w.heap.size w w' := by
  have HGR := Lib.hid (fun w' (h : Below w.heap.size w w') => lground_any wd hg o g w' (hv.keep h) hl)
  have HCK := Lib.hid (fun w' (h : Below w.heap.size w w') => by have h2 := Check_any wd hg o (.slice none 0 0) (.slice none 0 0) g [] [] w' (hv.keep h) hl (.inl ⟨_, _, rfl, rfl⟩) (by simp) (.inl ⟨_, _, rfl, rfl⟩) (by simp); rw [ck_bare] at h2; exact h2)
  have HON := Lib.hid (fun p w' => On_any wd hg o p w')
  have HV := Lib.hid hv
  have HCL := Lib.hid (fun w' (h : Below w.heap.size w w') => Clear_any wd hg o g (a1, a2) (b1, b2) low rise w' (hv.keep h) hl)
  have HND := Lib.hid (fun w' (h : Below w.heap.size w w') => Needed_any wd hg o g (a1, a2) (b1, b2) low w' (hv.keep h) hl)
  have HTL := Lib.hid (fun w' (h : Below w.heap.size w w') => Tall_any wd hg o g (a1, a2) (b1, b2) rise w' (hv.keep h) hl)
  have HTU := Lib.hid (fun hm hp w' (h' : Below w.heap.size w w') => turned_any wd hg o g h a1 a2 w' (hv.keep h') hm h0 hp)
  obtain ⟨W1, hW1, hb0, hs1, hrd⟩ := three_reads w wd hg o (a1, a2) (b1, b2)
  have HW1 := Lib.hid hW1; have HB0 := Lib.hid hb0; have HRD := Lib.hid hrd; have HS1 := Lib.hid hs1
  clear hW1 hb0 hrd hs1 hv
  unfold mpV plV at HCL HND HTL HON
  unfold coV at HCK
  unfold mpV at HGR
  unfold mpV
  simp only at HCL HND HTL
  have ead : w.heap.size + 1 + 1 = w.heap.size + 2 := rfl
  go_enter Try.func7, Try.ntmps7
  go_wp2_with fail
  rw [← HW1.out]
  refine (head_any W1).mono ?_
  rintro e w2 ⟨rfl, hb⟩
  have HD2 := Lib.hid hb
  have HB2 := Lib.hid (HB0.out.trans (hb.mono HB0.out.size))
  clear hb
  obtain ⟨p0, p1, p2, p3, p4, p5, p6⟩ := HRD.out w2 HD2.out
  go_wp2_with fail
  refine (HGR.out _ HB2.out).mono ?_
  rintro e w3 ⟨rfl, hb⟩
  have HD3 := Lib.hid (HD2.out.trans (hb.mono HD2.out.size))
  have HB3 := Lib.hid (HB2.out.trans (hb.mono HB2.out.size))
  clear hb p0 p1 p2 p3 p4 p5 p6
  cases decide (g.length ≤ 2600)
  · go_wp2_with fail
    go_ret
    exact ⟨rfl, HB3.out⟩
  obtain ⟨p0, p1, p2, p3, p4, p5, p6⟩ := HRD.out w3 HD3.out
  cases hm : vmB wd hg g
  · rw [hm, if_neg (by decide)] at HCK
    go_wp2_with fail
    refine (HCK.out _ HB3.out).mono ?_
    rintro e w4 ⟨rfl, hb⟩
    have HD4 := Lib.hid (HD3.out.trans (hb.mono HD3.out.size))
    have HB4 := Lib.hid (HB3.out.trans (hb.mono HB3.out.size))
    clear hb p0 p1 p2 p3 p4 p5 p6
    go_wp2_with fail
    go_ret
    exact ⟨rfl, HB4.out⟩
  rw [hm, if_pos rfl] at HCK
  have HM := Lib.hid hm
  clear hm
  go_wp2_with fail
  refine (HCK.out _ HB3.out).mono ?_
  rintro e w4 ⟨rfl, hb⟩
  have HD4 := Lib.hid (HD3.out.trans (hb.mono HD3.out.size))
  have HB4 := Lib.hid (HB3.out.trans (hb.mono HB3.out.size))
  clear hb p0 p1 p2 p3 p4 p5 p6
  obtain ⟨p0, p1, p2, p3, p4, p5, p6⟩ := HRD.out w4 HD4.out
  cases ha : onB wd hg (a1, a2)
  · have HO1 := Lib.hid (fun w' => HON.out (a1, a2) w')
    rw [ha] at HO1
    clear ha
    go_wp2_with fail
    refine (HO1.out _).mono ?_
    rintro e w5 ⟨rfl, hb⟩
    have HD5 := Lib.hid (HD4.out.trans (hb.mono HD4.out.size))
    have HB5 := Lib.hid (HB4.out.trans (hb.mono HB4.out.size))
    clear hb p0 p1 p2 p3 p4 p5 p6
    go_wp2_with fail
    go_ret
    exact ⟨rfl, HB5.out⟩
  have HO1 := Lib.hid (fun w' => HON.out (a1, a2) w')
  rw [ha] at HO1
  have HA := Lib.hid ha
  clear ha
  go_wp2_with fail
  refine (HO1.out _).mono ?_
  rintro e w5 ⟨rfl, hb⟩
  have HD5 := Lib.hid (HD4.out.trans (hb.mono HD4.out.size))
  have HB5 := Lib.hid (HB4.out.trans (hb.mono HB4.out.size))
  clear hb p0 p1 p2 p3 p4 p5 p6
  obtain ⟨p0, p1, p2, p3, p4, p5, p6⟩ := HRD.out w5 HD5.out
  cases hb' : onB wd hg (b1, b2)
  · have HO2 := Lib.hid (fun w' => HON.out (b1, b2) w')
    rw [hb'] at HO2
    clear hb'
    go_wp2_with fail
    refine (HO2.out _).mono ?_
    rintro e w6 ⟨rfl, hb⟩
    have HD6 := Lib.hid (HD5.out.trans (hb.mono HD5.out.size))
    have HB6 := Lib.hid (HB5.out.trans (hb.mono HB5.out.size))
    clear hb p0 p1 p2 p3 p4 p5 p6
    go_wp2_with fail
    go_ret
    exact ⟨rfl, HB6.out⟩
  have HO2 := Lib.hid (fun w' => HON.out (b1, b2) w')
  rw [hb'] at HO2
  have HB := Lib.hid hb'
  clear hb'
  go_wp2_with fail
  refine (HO2.out _).mono ?_
  rintro e w6 ⟨rfl, hb⟩
  have HD6 := Lib.hid (HD5.out.trans (hb.mono HD5.out.size))
  have HB6 := Lib.hid (HB5.out.trans (hb.mono HB5.out.size))
  clear hb p0 p1 p2 p3 p4 p5 p6
  obtain ⟨p0, p1, p2, p3, p4, p5, p6⟩ := HRD.out w6 HD6.out
  clear HCK HON HO1 HO2 HGR
  go_wp2_with fail
  refine (HTU.out HM.out HA.out _ HB6.out).mono ?_
  rintro e w7 ⟨o', g', rfl, hb, hrow, hok⟩
  obtain ⟨oa, oc, rfl, _⟩ := hrow.form
  have hm' := mir_vm (h := h) HM.out hok.len hok.bd
  have hval := hok.end
  have hgl : g'.length ≤ 9223372036854775807 := by rw [hok.len]; exact hl
  have E1 : clB (mirW wd hg h) (mirW hg wd h) g' (mirP wd hg h (a1, a2)) low (mirP wd hg h (b1, b2)) rise = clB wd hg g (a1, a2) low (b1, b2) rise := by
    unfold clB
    rw [vl_mirror HM.out HA.out HB.out hm', free_mirror HA.out HB.out hval]
  have E2 : ∀ l, lnE (mirW wd hg h) (mirW hg wd h) g' (mirP wd hg h (a1, a2)) (mirP wd hg h (b1, b2)) l = lnE wd hg g (a1, a2) (b1, b2) l := fun l => by
    unfold lnE
    rw [vl_mirror HM.out HA.out HB.out hm']
  have E3 := fun l => vl_mirror HM.out HA.out HB.out hm' l
  have E4 := nd_mirror (up := low) HA.out HB.out hval
  have E5 := nd_mirror (up := rise) HB.out HA.out hval
  have HCL2 := Lib.hid (fun w' (h' : Below w7.heap.size w7 w') => by have h2 := Clear_any (mirW wd hg h) (mirW hg wd h) _ g' (mirP wd hg h (a1, a2)) (mirP wd hg h (b1, b2)) low rise w' (hrow.keep h') hgl; rw [E1, E2] at h2; exact h2)
  have HND2 := Lib.hid (fun w' (h' : Below w7.heap.size w7 w') => by have h2 := Needed_any (mirW wd hg h) (mirW hg wd h) _ g' (mirP wd hg h (a1, a2)) (mirP wd hg h (b1, b2)) low w' (hrow.keep h') hgl; rw [E2, E3, E4] at h2; exact h2)
  have HTL2 := Lib.hid (fun w' (h' : Below w7.heap.size w7 w') => by have h2 := Tall_any (mirW wd hg h) (mirW hg wd h) _ g' (mirP wd hg h (a1, a2)) (mirP wd hg h (b1, b2)) rise w' (hrow.keep h') hgl; rw [E2, E3, E5] at h2; exact h2)
  have HD7 := Lib.hid (HD6.out.trans (hb.mono HD6.out.size))
  have HB7 := Lib.hid (HB6.out.trans (hb.mono HB6.out.size))
  have hbd : 1 ≤ wd ∧ wd ≤ 49 ∧ 1 ≤ hg ∧ hg ≤ 49 := by obtain ⟨a1, a2, a3, a4, _⟩ := vmB_ok HM.out; exact ⟨a1, a2, a3, a4⟩
  have hbp := onB_ok HB.out
  simp only at hbp
  have HMI := Lib.hid (fun w' => mirrored_any wd hg o h (b1, b2) w' h0 ⟨hbd.1, hbd.2.1⟩ ⟨hbd.2.2.1, hbd.2.2.2⟩ (by simp only; omega))
  clear hb hrow hok hm' hval hgl E1 E2 E3 E4 E5 hbd hbp HTU p0 p1 p2 p3 p4 p5 p6
  unfold mpV plV at HCL2 HND2 HTL2 HMI
  unfold mpV plV
  obtain ⟨⟨m1, m2⟩, hme⟩ : ∃ q, mirP wd hg h (a1, a2) = q := ⟨_, rfl⟩
  obtain ⟨⟨n1, n2⟩, hne⟩ : ∃ q, mirP wd hg h (b1, b2) = q := ⟨_, rfl⟩
  obtain ⟨mw, hmw⟩ : ∃ q, mirW wd hg h = q := ⟨_, rfl⟩
  obtain ⟨mh, hmh⟩ : ∃ q, mirW hg wd h = q := ⟨_, rfl⟩
  rw [hme, hne, hmw, hmh] at HCL2 HND2 HTL2
  rw [hne] at HMI
  rw [hme, hmw, hmh]
  obtain ⟨c1, hc1⟩ : ∃ q, clB wd hg g (a1, a2) low (b1, b2) rise = q := ⟨_, rfl⟩
  obtain ⟨c2, hc2⟩ : ∃ q, lnE wd hg g (a1, a2) (b1, b2) [low, rise] = q := ⟨_, rfl⟩
  rw [hc1, hc2] at HCL HCL2
  obtain ⟨c3, hc3⟩ : ∃ q, (if vlB wd hg g (a1, a2) (b1, b2) [low] = true then ndI g wd (a1, a2) low (b1, b2) else 0) = q := ⟨_, rfl⟩
  obtain ⟨c4, hc4⟩ : ∃ q, lnE wd hg g (a1, a2) (b1, b2) [low] = q := ⟨_, rfl⟩
  rw [hc3, hc4] at HND HND2
  obtain ⟨c5, hc5⟩ : ∃ q, (if vlB wd hg g (a1, a2) (b1, b2) [rise] = true then ndI g wd (b1, b2) rise (a1, a2) else 0) = q := ⟨_, rfl⟩
  obtain ⟨c6, hc6⟩ : ∃ q, lnE wd hg g (a1, a2) (b1, b2) [rise] = q := ⟨_, rfl⟩
  rw [hc5, hc6] at HTL HTL2
  clear hme hne hmw hmh hc1 hc2 hc3 hc4 hc5 hc6
  simp only at HCL2 HND2 HTL2 HMI
  have HY := Lib.hid (((Below.refl _ w7).alloc (Nat.le_refl w7.heap.size) (.cells #[.int .i64 mw, .int .i64 mh, .slice oa g'.length oc] 24)).alloc (by simp) (.cells #[.int .i64 m1, .int .i64 m2] 30))
  have HYM : Hid (((w7.alloc (.cells #[.int .i64 mw, .int .i64 mh, .slice oa g'.length oc] 24)).alloc (.cells #[.int .i64 m1, .int .i64 m2] 30)).heap[w7.heap.size]? = some (.cells #[.int .i64 mw, .int .i64 mh, .slice oa g'.length oc] 24 (0, 0))) := Lib.hid ((gNe _ _ _ (by simp)).trans (heap_alloc_new _ _))
  have HYP : Hid (((w7.alloc (.cells #[.int .i64 mw, .int .i64 mh, .slice oa g'.length oc] 24)).alloc (.cells #[.int .i64 m1, .int .i64 m2] 30)).heap[w7.heap.size + 1]? = some (.cells #[.int .i64 m1, .int .i64 m2] 30 (0, 0))) := Lib.hid (gAt _ _ _ (by simp))
  obtain ⟨p0, p1, p2, p3, p4, p5, p6⟩ := HRD.out _ (HD7.out.trans (HY.out.mono HD7.out.size))
  go_wp2_with fail
  obtain ⟨Y, hY⟩ : ∃ Y, (w7.alloc (.cells #[.int .i64 mw, .int .i64 mh, .slice oa g'.length oc] 24)).alloc (.cells #[.int .i64 m1, .int .i64 m2] 30) = Y := ⟨_, rfl⟩
  rw [hY] at HY HYM HYP ⊢
  clear hY p0 p1 p2 p3 p4 p5 p6
  refine (HMI.out _).mono ?_
  rintro e w8 ⟨rfl, hb⟩
  have HE8 := Lib.hid (HY.out.trans (hb.mono HY.out.size))
  have HM8 := Lib.hid ((hb.block _ (Array.getElem?_eq_some_iff.1 HYM.out).1).trans HYM.out)
  have HP8 := Lib.hid ((hb.block _ (Array.getElem?_eq_some_iff.1 HYP.out).1).trans HYP.out)
  clear hb HMI
  have HZ := Lib.hid ((Below.refl _ w8).alloc (Nat.le_refl w8.heap.size) (.cells #[.int .i64 n1, .int .i64 n2] 30))
  have HZQ : Hid ((w8.alloc (.cells #[.int .i64 n1, .int .i64 n2] 30)).heap[w8.heap.size]? = some (.cells #[.int .i64 n1, .int .i64 n2] 30 (0, 0))) := Lib.hid (heap_alloc_new _ _)
  obtain ⟨p0, p1, p2, p3, p4, p5, p6⟩ := HRD.out _ (HD7.out.trans ((HE8.out.trans (HZ.out.mono HE8.out.size)).mono HD7.out.size))
  go_wp2_with fail
  obtain ⟨W9, hW9⟩ : ∃ Y, w8.alloc (.cells #[.int .i64 n1, .int .i64 n2] 30) = Y := ⟨_, rfl⟩
  have HE9 : Hid (Below w7.heap.size w7 W9) := Lib.hid (by rw [← hW9]; exact HE8.out.trans (HZ.out.mono HE8.out.size))
  have HRE : Hid (∀ W', Below W9.heap.size W9 W' → W'.cell? ⟨w7.heap.size, 0, none⟩ = some (.int .i64 mw) ∧ W'.cell? ⟨w7.heap.size, 1, none⟩ = some (.int .i64 mh) ∧ W'.cell? ⟨w7.heap.size, 2, none⟩ = some (.slice oa g'.length oc) ∧ W'.cell? ⟨w7.heap.size + 1, 0, none⟩ = some (.int .i64 m1) ∧ W'.cell? ⟨w7.heap.size + 1, 1, none⟩ = some (.int .i64 m2) ∧ W'.cell? ⟨w8.heap.size, 0, none⟩ = some (.int .i64 n1) ∧ W'.cell? ⟨w8.heap.size, 1, none⟩ = some (.int .i64 n2)) := Lib.hid (fun W' h' => by
    have hz : Below w8.heap.size w8 W' := by rw [← hW9] at h'; exact HZ.out.trans (h'.mono HZ.out.size)
    have k0 := (hz.block _ (Array.getElem?_eq_some_iff.1 HM8.out).1).trans HM8.out
    have k1 := (hz.block _ (Array.getElem?_eq_some_iff.1 HP8.out).1).trans HP8.out
    have k2 : W'.heap[w8.heap.size]? = some (.cells #[.int .i64 n1, .int .i64 n2] 30 (0, 0)) := by
      rw [← hW9] at h'
      exact (h'.block _ (Array.getElem?_eq_some_iff.1 HZQ.out).1).trans HZQ.out
    exact ⟨cellH k0 0, cellH k0 1, cellH k0 2, cellH k1 0, cellH k1 1, cellH k2 0, cellH k2 1⟩)
  have HB9 := Lib.hid (HB7.out.trans (HE9.out.mono HB7.out.size))
  have HD9 := Lib.hid (HD7.out.trans (HE9.out.mono HD7.out.size))
  rw [hW9]
  clear hW9 p0 p1 p2 p3 p4 p5 p6 HZ HZQ HM8 HP8 HY HYM HYP
  have HS9 := Lib.hid (Below.refl W9.heap.size W9)
  refine (HCL.out _ HB9.out).mono ?_
  rintro e w10 ⟨rfl, hb⟩
  have HS10 := Lib.hid (HS9.out.trans (hb.mono HS9.out.size))
  have HD10 := Lib.hid (HD9.out.trans (hb.mono HD9.out.size))
  have HB10 := Lib.hid (HB9.out.trans (hb.mono HB9.out.size))
  clear hb
  obtain ⟨p0, p1, p2, p3, p4, p5, p6⟩ := HRE.out w10 HS10.out
  go_wp2_with fail
  clear p0 p1 p2 p3 p4 p5 p6
  refine (HCL2.out _ (HE9.out.trans (HS10.out.mono HE9.out.size))).mono ?_
  rintro e w11 ⟨rfl, hb⟩
  have HS11 := Lib.hid (HS10.out.trans (hb.mono HS10.out.size))
  have HD11 := Lib.hid (HD10.out.trans (hb.mono HD10.out.size))
  have HB11 := Lib.hid (HB10.out.trans (hb.mono HB10.out.size))
  clear hb
  obtain ⟨p0, p1, p2, p3, p4, p5, p6⟩ := HRD.out w11 HD11.out
  go_wp2_with fail
  clear p0 p1 p2 p3 p4 p5 p6
  refine (HND.out _ HB11.out).mono ?_
  rintro e w12 ⟨rfl, hb⟩
  have HS12 := Lib.hid (HS11.out.trans (hb.mono HS11.out.size))
  have HD12 := Lib.hid (HD11.out.trans (hb.mono HD11.out.size))
  have HB12 := Lib.hid (HB11.out.trans (hb.mono HB11.out.size))
  clear hb
  obtain ⟨p0, p1, p2, p3, p4, p5, p6⟩ := HRE.out w12 HS12.out
  go_wp2_with fail
  clear p0 p1 p2 p3 p4 p5 p6
  refine (HND2.out _ (HE9.out.trans (HS12.out.mono HE9.out.size))).mono ?_
  rintro e w13 ⟨rfl, hb⟩
  have HS13 := Lib.hid (HS12.out.trans (hb.mono HS12.out.size))
  have HD13 := Lib.hid (HD12.out.trans (hb.mono HD12.out.size))
  have HB13 := Lib.hid (HB12.out.trans (hb.mono HB12.out.size))
  clear hb
  obtain ⟨p0, p1, p2, p3, p4, p5, p6⟩ := HRD.out w13 HD13.out
  go_wp2_with fail
  clear p0 p1 p2 p3 p4 p5 p6
  refine (HTL.out _ HB13.out).mono ?_
  rintro e w14 ⟨rfl, hb⟩
  have HS14 := Lib.hid (HS13.out.trans (hb.mono HS13.out.size))
  have HD14 := Lib.hid (HD13.out.trans (hb.mono HD13.out.size))
  have HB14 := Lib.hid (HB13.out.trans (hb.mono HB13.out.size))
  clear hb
  obtain ⟨p0, p1, p2, p3, p4, p5, p6⟩ := HRE.out w14 HS14.out
  go_wp2_with fail
  clear p0 p1 p2 p3 p4 p5 p6
  refine (HTL2.out _ (HE9.out.trans (HS14.out.mono HE9.out.size))).mono ?_
  rintro e w15 ⟨rfl, hb⟩
  have HS15 := Lib.hid (HS14.out.trans (hb.mono HS14.out.size))
  have HD15 := Lib.hid (HD14.out.trans (hb.mono HD14.out.size))
  have HB15 := Lib.hid (HB14.out.trans (hb.mono HB14.out.size))
  clear hb
  go_wp2_with fail
  go_ret
  exact ⟨by simp, HB15.out⟩
theorem mirrors_card (wd hg : Int) (o : Value) (g : List Int) (h a1 a2 low b1 b2 rise : Int) (w : World) (hv : INRow w o g) (hl : g.length ≤ 9223372036854775807) (h0 : 0 ≤ h ∧ h ≤ 255) (_ : -9223372036854775808 ≤ low ∧ low ≤ 9223372036854775807) (_ : -9223372036854775808 ≤ rise ∧ rise ≤ 9223372036854775807) :
    Calls Try.prog 7 #[mpV wd hg o, .int .u8 h, .agg #[.int .i64 a1, .int .i64 a2], .int .i64 low, .agg #[.int .i64 b1, .int .i64 b2], .int .i64 rise] w fun e w' => e = .returned (.bool true) ∧ Below w.heap.size w w' := mirrors_law wd hg o g h a1 a2 low b1 b2 rise w hv hl h0
end Go.Proofs.Ytjllkmekchmmbaa
