/- Package firetowerref05: Suspects. -/
import Derived.Test.YtpaihnjgpookjaaGreatCG4
import Derived.Test.YtpaihnjgpookjaaGreatCG5
set_option linter.unusedVariables false
set_option linter.unusedSimpArgs false
namespace Go.Proofs.YtpaihnjgpookjaaGreat
open Go Go.RowKit

theorem info_in2 : (Tryz.prog.info? 39).map (·.size) = some 2 := by kernel_rfl
theorem tIN : (39 : TypeId) ≠ 3 := by decide
def hasI (i : Int) (p : Pi2) : Bool := p.1 == i || p.2 == i
/-- A check that all pairs hold. -/
def susB (L : List Pi2) (i : Int) : Bool := L.all (hasI i)
/-- The suspects of the first checks. -/
def suR (L : List Pi2) (ks : List Ck) : Nat → List Int
  | 0 => []
  | k + 1 => if susB L (ks.getD k .nil).id = true then addI (suR L ks k) (ks.getD k .nil).id else suR L ks k
theorem suR_len (L : List Pi2) (ks : List Ck) : ∀ k, (suR L ks k).length ≤ k
  | 0 => Nat.le_refl 0
  | k + 1 => by
    have h := suR_len L ks k
    show (if _ then _ else _ : List Int).length ≤ _
    split
    · rw [addI_len]; omega
    · omega
def suS (cs : List Ci) (ks : List Ck) : List Int := if ccE cs ks = 0 then (if (clK cs ks cs.length).length = 0 then [] else suR (clK cs ks cs.length) ks ks.length) else []
/-- What the reference's Suspects answers. -/
def RsuOut (L : List Int) (E : Int) (w : World) (e : Ending) (w' : World) : Prop := ∃ v, e = .returned (.agg #[v, .int .i64 E]) ∧ INRow w' v L ∧ Below w.heap.size w w'
theorem all_step {L : List Pi2} {f : Pi2 → Bool} {j : Nat} (hj : j < L.length) : (L.take (j + 1)).all f = ((L.take j).all f && f (L.getD j (0, 0))) := by
  rw [List.take_succ_eq_append_getElem hj, List.all_append, List.getD_eq_getElem?_getD, List.getElem?_eq_getElem hj]
  simp
set_option maxRecDepth 100000 in
set_option maxHeartbeats 8000000 in
theorem rSuspects_any (v1 v2 : Value) (cs : List Ci) (ks : List Ck) (w : World) (hv1 : CiRow w v1 cs) (hv2 : CkRow w v2 ks) (hl1 : cs.length ≤ 9223372036854775807) (hl2 : ks.length ≤ 9223372036854775807) :
    Calls Tryz.prog 10 #[.agg #[v1, v2]] w fun e w' => RsuOut (suS cs ks) (ccE cs ks) w e w' := by
  obtain ⟨a1, c1, rfl, _⟩ := hv1.form
  obtain ⟨a2, c2, rfl, hc2⟩ := hv2.form
  have HC := Lib.hid hc2
  have HCL := Lib.hid (fun w' (h : Below w.heap.size w w') => rClashes_any (.slice a1 cs.length c1) (.slice a2 ks.length c2) cs ks w' (hv1.keep h) (hv2.keep h) hl1 hl2)
  have HOK := Lib.hid (ccE_ok (cs := cs) (ks := ks))
  have HLK := Lib.hid (fun (h : CcOk cs ks) => clK_len h cs.length (Nat.le_refl _))
  have HS1 : Hid (ccE cs ks ≠ 0 → suS cs ks = []) := Lib.hid (fun h => by unfold suS; rw [if_neg h])
  have HS2 : Hid (ccE cs ks = 0 → (clK cs ks cs.length).length = 0 → suS cs ks = []) := Lib.hid (fun h h2 => by unfold suS; rw [if_pos h, if_pos h2])
  have HS3 : Hid (ccE cs ks = 0 → ¬ (clK cs ks cs.length).length = 0 → suS cs ks = suR (clK cs ks cs.length) ks ks.length) := Lib.hid (fun h h2 => by unfold suS; rw [if_pos h, if_neg h2])
  unfold RcOut at HCL
  obtain ⟨SS, hSS⟩ : ∃ z, suS cs ks = z := ⟨_, rfl⟩
  obtain ⟨L, hL⟩ : ∃ z, clK cs ks cs.length = z := ⟨_, rfl⟩
  obtain ⟨E, hE⟩ : ∃ z, ccE cs ks = z := ⟨_, rfl⟩
  rw [hSS, hE] at HS1
  rw [hSS, hE, hL] at HS2 HS3
  rw [hE, hL] at HCL
  rw [hE] at HOK ⊢
  rw [hL] at HLK
  rw [hSS]
  clear hE hL hSS hc2 hv1 hv2
  obtain ⟨x0, x1, xlt, xb⟩ := two_cells w #[.slice a1 cs.length c1, .slice a2 ks.length c2] #[.slice none 0 0, .int .i64 0] 25 39 (Below.refl _ _)
  have HNc : Hid (((w.alloc (.cells #[.slice a1 cs.length c1, .slice a2 ks.length c2] 25)).alloc (.cells #[.slice none 0 0, .int .i64 0] 39)).heap[w.heap.size]? = some (.cells #[.slice a1 cs.length c1, .slice a2 ks.length c2] 25 (0, 0))) := Lib.hid x0
  have HNr : Hid (((w.alloc (.cells #[.slice a1 cs.length c1, .slice a2 ks.length c2] 25)).alloc (.cells #[.slice none 0 0, .int .i64 0] 39)).heap[w.heap.size + 1]? = some (.cells #[.slice none 0 0, .int .i64 0] 39 (0, 0))) := Lib.hid x1
  have HB : Hid (Below w.heap.size w ((w.alloc (.cells #[.slice a1 cs.length c1, .slice a2 ks.length c2] 25)).alloc (.cells #[.slice none 0 0, .int .i64 0] 39))) := Lib.hid xb
  obtain ⟨Z, hZ⟩ : ∃ Z, ((w.alloc (.cells #[.slice a1 cs.length c1, .slice a2 ks.length c2] 25)).alloc (.cells #[.slice none 0 0, .int .i64 0] 39)) = Z := ⟨_, rfl⟩
  rw [hZ] at HB HNc HNr
  have HZ := Lib.hid hZ
  clear hZ xlt xb x0 x1
  go_enter Tryz.func10, Tryz.ntmps10
  go_wp2_with fail
  rw [HZ.out]
  refine (HCL.out _ HB.out).mono ?_
  rintro e w1 ⟨hb, h1, h2⟩
  replace HB := Lib.hid (HB.out.trans (hb.mono HB.out.size))
  replace HNc := Lib.hid ((hb.block _ (Array.getElem?_eq_some_iff.1 HNc.out).1).trans HNc.out)
  replace HNr := Lib.hid ((hb.block _ (Array.getElem?_eq_some_iff.1 HNr.out).1).trans HNr.out)
  clear hb
  by_cases h0 : E = 0
  case neg =>
    have he := h1 h0
    subst he
    have gE : (E != 0) = true := by simpa using h0
    have HN := Lib.hid (HS1.out h0)
    clear h0 h1 h2
    have hAlc : Below w1.heap.size w1 (w1.alloc (.cells #[.slice none 0 0, .int .i64 0] 33)) := (Below.refl _ w1).alloc (Nat.le_refl _) _
    have HSp : Hid (w.heap.size ≤ w1.heap.size) := Lib.hid HB.out.size
    have HNp : Hid ((w1.alloc (.cells #[.slice none 0 0, .int .i64 0] 33)).heap[w1.heap.size]? = some (.cells #[.slice none 0 0, .int .i64 0] 33 (0, 0))) := Lib.hid (heap_alloc_new _ _)
    replace HB := Lib.hid (HB.out.trans (hAlc.mono HB.out.size))
    have HXc_p : Hid (w.heap.size ≠ w1.heap.size) := Lib.hid (Nat.ne_of_lt (Array.getElem?_eq_some_iff.1 HNc.out).1)
    have HXr_p : Hid (w.heap.size + 1 ≠ w1.heap.size) := Lib.hid (Nat.ne_of_lt (Array.getElem?_eq_some_iff.1 HNr.out).1)
    replace HNc := Lib.hid ((hAlc.block _ (Array.getElem?_eq_some_iff.1 HNc.out).1).trans HNc.out)
    replace HNr := Lib.hid ((hAlc.block _ (Array.getElem?_eq_some_iff.1 HNr.out).1).trans HNr.out)
    obtain ⟨ap, hap⟩ : ∃ qq, w1.alloc (.cells #[.slice none 0 0, .int .i64 0] 33) = qq := ⟨_, rfl⟩
    obtain ⟨bkp, hbp⟩ : ∃ qq, w1.heap.size = qq := ⟨_, rfl⟩
    rw [hap] at HB HNp HNc HNr
    rw [hbp] at HNp HSp HXc_p HXr_p
    clear hAlc
    have zp0 := cellH HNp.out 0
    have zp1 := cellH HNp.out 1
    simp only [List.getElem?_toArray, List.getElem?_cons_zero, List.getElem?_cons_succ] at zp0 zp1
    have zfp := freeH HNp.out
    replace HNc := Lib.hid ((heap_other ap (bkp) 0 (.slice none 0 0) _ HXc_p.out).trans HNc.out)
    replace HNr := Lib.hid ((heap_other ap (bkp) 0 (.slice none 0 0) _ HXr_p.out).trans HNr.out)
    replace HNp := Lib.hid (heap_same HNp.out 0 (.slice none 0 0))
    simp only [List.setIfInBounds_toArray, List.set_cons_zero, List.set_cons_succ] at HNp
    replace HB := Lib.hid (HB.out.setCell (p := ⟨bkp, 0, none⟩) HSp.out (.slice none 0 0))
    obtain ⟨s2, hs2⟩ : ∃ X, ap.setCell ⟨bkp, 0, none⟩ (.slice none 0 0) = X := ⟨_, rfl⟩
    rw [hs2] at HB HNc HNr HNp
    have zp0_2 := cellH HNp.out 0
    have zp1_2 := cellH HNp.out 1
    simp only [List.getElem?_toArray, List.getElem?_cons_zero, List.getElem?_cons_succ] at zp0_2 zp1_2
    have zfp_2 := freeH HNp.out
    replace HNc := Lib.hid ((heap_other s2 (bkp) 1 (.int .i64 E) _ HXc_p.out).trans HNc.out)
    replace HNr := Lib.hid ((heap_other s2 (bkp) 1 (.int .i64 E) _ HXr_p.out).trans HNr.out)
    replace HNp := Lib.hid (heap_same HNp.out 1 (.int .i64 E))
    simp only [List.setIfInBounds_toArray, List.set_cons_zero, List.set_cons_succ] at HNp
    replace HB := Lib.hid (HB.out.setCell (p := ⟨bkp, 1, none⟩) HSp.out (.int .i64 E))
    obtain ⟨s3, hs3⟩ : ∃ X, s2.setCell ⟨bkp, 1, none⟩ (.int .i64 E) = X := ⟨_, rfl⟩
    rw [hs3] at HB HNc HNr HNp
    have zr0_3 := cellH HNr.out 0
    have zr1_3 := cellH HNr.out 1
    have zp0_3 := cellH HNp.out 0
    have zp1_3 := cellH HNp.out 1
    simp only [List.getElem?_toArray, List.getElem?_cons_zero, List.getElem?_cons_succ] at zr0_3 zr1_3 zp0_3 zp1_3
    have zfr_3 := freeH HNr.out
    go_wp2_with fail
    try clear hap hbp hs2 hs3
    obtain ⟨y1, y2⟩ := set2 HNr.out HB.out (by omega) (.slice none 0 0) (.int .i64 E)
    refine bodyPost_ret (results_cell_row Tryz.results10 _ _ (w.heap.size + 1) 39 _ (0, 0) _ rfl y1 Tryz.underlying39 rfl info_in2) rfl ?_
    exact ⟨_, rfl, by rw [HN.out]; exact .inl ⟨_, _, rfl, rfl⟩, y2⟩
  have HO := Lib.hid (HOK.out h0)
  obtain ⟨v, he, hP⟩ := h2 h0
  subst he
  replace HS2 := Lib.hid (HS2.out h0)
  replace HS3 := Lib.hid (HS3.out h0)
  have HLL := Lib.hid (HLK.out HO.out)
  subst h0
  clear h1 h2 HS1 HOK HLK
  obtain ⟨pa, pc, rfl, _⟩ := hP.form
  have hAlc : Below w1.heap.size w1 (w1.alloc (.cells #[.slice none 0 0, .int .i64 0] 33)) := (Below.refl _ w1).alloc (Nat.le_refl _) _
  have HSp : Hid (w.heap.size ≤ w1.heap.size) := Lib.hid HB.out.size
  have HNp : Hid ((w1.alloc (.cells #[.slice none 0 0, .int .i64 0] 33)).heap[w1.heap.size]? = some (.cells #[.slice none 0 0, .int .i64 0] 33 (0, 0))) := Lib.hid (heap_alloc_new _ _)
  replace HB := Lib.hid (HB.out.trans (hAlc.mono HB.out.size))
  have HXc_p : Hid (w.heap.size ≠ w1.heap.size) := Lib.hid (Nat.ne_of_lt (Array.getElem?_eq_some_iff.1 HNc.out).1)
  have HXr_p : Hid (w.heap.size + 1 ≠ w1.heap.size) := Lib.hid (Nat.ne_of_lt (Array.getElem?_eq_some_iff.1 HNr.out).1)
  replace HNc := Lib.hid ((hAlc.block _ (Array.getElem?_eq_some_iff.1 HNc.out).1).trans HNc.out)
  replace HNr := Lib.hid ((hAlc.block _ (Array.getElem?_eq_some_iff.1 HNr.out).1).trans HNr.out)
  obtain ⟨ap, hap⟩ : ∃ qq, w1.alloc (.cells #[.slice none 0 0, .int .i64 0] 33) = qq := ⟨_, rfl⟩
  obtain ⟨bkp, hbp⟩ : ∃ qq, w1.heap.size = qq := ⟨_, rfl⟩
  rw [hap] at HB HNp HNc HNr
  rw [hbp] at HNp HSp HXc_p HXr_p
  clear hAlc
  have zp0 := cellH HNp.out 0
  have zp1 := cellH HNp.out 1
  simp only [List.getElem?_toArray, List.getElem?_cons_zero, List.getElem?_cons_succ] at zp0 zp1
  have zfp := freeH HNp.out
  replace HNc := Lib.hid ((heap_other ap (bkp) 0 (.slice pa L.length pc) _ HXc_p.out).trans HNc.out)
  replace HNr := Lib.hid ((heap_other ap (bkp) 0 (.slice pa L.length pc) _ HXr_p.out).trans HNr.out)
  replace HNp := Lib.hid (heap_same HNp.out 0 (.slice pa L.length pc))
  simp only [List.setIfInBounds_toArray, List.set_cons_zero, List.set_cons_succ] at HNp
  replace HB := Lib.hid (HB.out.setCell (p := ⟨bkp, 0, none⟩) HSp.out (.slice pa L.length pc))
  obtain ⟨s4, hs4⟩ : ∃ X, ap.setCell ⟨bkp, 0, none⟩ (.slice pa L.length pc) = X := ⟨_, rfl⟩
  rw [hs4] at HB HNc HNr HNp
  have zp0_5 := cellH HNp.out 0
  have zp1_5 := cellH HNp.out 1
  simp only [List.getElem?_toArray, List.getElem?_cons_zero, List.getElem?_cons_succ] at zp0_5 zp1_5
  have zfp_5 := freeH HNp.out
  replace HNc := Lib.hid ((heap_other s4 (bkp) 1 (.int .i64 0) _ HXc_p.out).trans HNc.out)
  replace HNr := Lib.hid ((heap_other s4 (bkp) 1 (.int .i64 0) _ HXr_p.out).trans HNr.out)
  replace HNp := Lib.hid (heap_same HNp.out 1 (.int .i64 0))
  simp only [List.setIfInBounds_toArray, List.set_cons_zero, List.set_cons_succ] at HNp
  replace HB := Lib.hid (HB.out.setCell (p := ⟨bkp, 1, none⟩) HSp.out (.int .i64 0))
  obtain ⟨s5, hs5⟩ : ∃ X, s4.setCell ⟨bkp, 1, none⟩ (.int .i64 0) = X := ⟨_, rfl⟩
  rw [hs5] at HB HNc HNr HNp
  have hBQ : Below w1.heap.size w1 s5 := by
    have h0 := Below.refl w1.heap.size w1
    have bp : w1.heap.size ≤ bkp := by rw [← hbp]; exact h0.size
    have h1 := h0.alloc h0.size (.cells #[.slice none 0 0, .int .i64 0] 33)
    rw [hap] at h1
    have h2 := h1.setCell (p := ⟨bkp, 0, none⟩) bp (.slice pa L.length pc)
    rw [hs4] at h2
    have h3 := h2.setCell (p := ⟨bkp, 1, none⟩) bp (.int .i64 0)
    rw [hs5] at h3
    exact h3
  have HP := Lib.hid (hP.keep hBQ)
  clear hBQ hP
  by_cases hg : L.length = 0
  case pos =>
    have HN := Lib.hid (HS2.out hg)
    have gL : ((L.length : Int) == 0) = true := by rw [hg]; rfl
    clear hg
    have zr0_6 := cellH HNr.out 0
    have zr1_6 := cellH HNr.out 1
    have zp0_6 := cellH HNp.out 0
    have zp1_6 := cellH HNp.out 1
    simp only [List.getElem?_toArray, List.getElem?_cons_zero, List.getElem?_cons_succ] at zr0_6 zr1_6 zp0_6 zp1_6
    have zfr_6 := freeH HNr.out
    go_wp2_with fail
    try clear hap hbp hs4 hs5
    obtain ⟨y1, y2⟩ := set2 HNr.out HB.out (by omega) (.slice none 0 0) (.int .i64 0)
    refine bodyPost_ret (results_cell_row Tryz.results10 _ _ (w.heap.size + 1) 39 _ (0, 0) _ rfl y1 Tryz.underlying39 rfl info_in2) rfl ?_
    exact ⟨_, rfl, by rw [HN.out]; exact .inl ⟨_, _, rfl, rfl⟩, y2⟩
  have HN := Lib.hid (HS3.out hg)
  have gL : ((L.length : Int) == 0) = false := by simpa using (by omega : ¬ (L.length : Int) = 0)
  have HOW : Hid (OwI s5 w.heap.size (.slice none 0 0) (suR L ks 0)) := Lib.hid ⟨rfl, .inl ⟨rfl, rfl⟩⟩
  clear hg
  have zc0_7 := cellH HNc.out 0
  have zc1_7 := cellH HNc.out 1
  have zp0_7 := cellH HNp.out 0
  have zp1_7 := cellH HNp.out 1
  simp only [List.getElem?_toArray, List.getElem?_cons_zero, List.getElem?_cons_succ] at zc0_7 zc1_7 zp0_7 zp1_7
  go_wp2_with fail
  try clear hap hbp hs4 hs5
  clear zp0 zp1 zfp zp0_5 zp1_5 zfp_5 zc0_7 zc1_7 zp0_7 zp1_7
  go_loopw [4, 5] (fun x i wr => ∃ (k : Nat) (o : Value), k ≤ ks.length ∧ x = o ∧ i = .int .i64 k ∧ Hid (OwI wr w.heap.size o (suR L ks k)) ∧ Hid (Below w.heap.size w wr) ∧ Hid (wr.heap[w.heap.size]? = some (.cells #[.slice a1 cs.length c1, .slice a2 ks.length c2] 25 (0, 0))) ∧ Hid (wr.heap[w.heap.size + 1]? = some (.cells #[.slice none 0 0, .int .i64 0] 39 (0, 0))) ∧ Hid (wr.heap[bkp]? = some (.cells #[.slice pa L.length pc, .int .i64 0] 33 (0, 0))) ∧ Hid (P2Row wr (.slice pa L.length pc) L)) (fun _ i _ => ks.length - (intOf i).toNat)
  case atStart => exact ⟨0, _, Nat.zero_le _, rfl, rfl, HOW, HB, HNc, HNr, HNp, HP⟩
  case round =>
    clear HB HNc HNr HNp HP
    clear HOW
    obtain ⟨k, o, hk, hx5, rfl, HOW, HB, HNc, HNr, HNp, HP⟩ := hrel
    have hx5 := hx5.symm
    subst hx5
    have hm := HO.out.m
    by_cases hkl : k < ks.length
    · obtain ⟨b, off, rfl, hb, hat⟩ := HC.out k hkl
      obtain ⟨e0, e1, e2, e3, e4, e5, e6⟩ := hat.keep HB.out hb
      have hki : (k : Int) < ks.length := by omega
      have hk0 : (0 : Int) ≤ k := by omega
      have HKL := Lib.hid hkl
      have HST : Hid (suR L ks (k + 1) = if susB L (ks.getD k .nil).id = true then addI (suR L ks k) (ks.getD k .nil).id else suR L ks k) := Lib.hid rfl
      have HLN : Hid ((suR L ks k).length ≤ 4000) := Lib.hid (by have := suR_len L ks k; omega)
      obtain ⟨X, hX⟩ : ∃ X, (ks.getD k .nil).id = X := ⟨_, rfl⟩
      rw [hX] at e0 HST
      clear hX hat hb e1 e2 e3 e4 e5 e6
      have zc0 := cellH HNc.out 0
      have zc1 := cellH HNc.out 1
      have zp0 := cellH HNp.out 0
      have zp1 := cellH HNp.out 1
      simp only [List.getElem?_toArray, List.getElem?_cons_zero, List.getElem?_cons_succ] at zc0 zc1 zp0 zp1
      go_wp2_with fail
      clear zc0 zc1 zp0 zp1
      clear e0
      go_loopw [7, 8] (fun x i wr => ∃ (j : Nat), j ≤ L.length ∧ x = .bool ((L.take j).all (hasI X)) ∧ i = .int .i64 j ∧ Hid (Below w.heap.size w wr) ∧ Hid (wr.heap[w.heap.size]? = some (.cells #[.slice a1 cs.length c1, .slice (some ⟨b, off, none⟩) ks.length c2] 25 (0, 0))) ∧ Hid (wr.heap[w.heap.size + 1]? = some (.cells #[.slice none 0 0, .int .i64 0] 39 (0, 0))) ∧ Hid (wr.heap[bkp]? = some (.cells #[.slice pa L.length pc, .int .i64 0] 33 (0, 0))) ∧ Hid (P2Row wr (.slice pa L.length pc) L) ∧ Hid (OwI wr w.heap.size o (suR L ks k))) (fun _ i _ => L.length - (intOf i).toNat)
      case atStart => exact ⟨0, Nat.zero_le _, rfl, rfl, HB, HNc, HNr, HNp, HP, HOW⟩
      case round =>
        clear HB HNc HNr HNp HP HOW
        obtain ⟨j, hj, rfl, rfl, HB, HNc, HNr, HNp, HP, HOW⟩ := hrel
        have hll := HLL.out
        have hcn := HO.out.n
        by_cases hjl : j < L.length
        · obtain ⟨pa2, pc2, hpq, hPf⟩ := HP.out.form
          cases hpq
          obtain ⟨b2, off2, rfl, hb2, f0, f1⟩ := hPf j hjl
          have hji : (j : Int) < L.length := by omega
          have hj0 : (0 : Int) ≤ j := by omega
          have HJL := Lib.hid hjl
          have HAS := Lib.hid (all_step (f := hasI X) hjl)
          obtain ⟨Y, hY⟩ : ∃ Y, L.getD j (0, 0) = Y := ⟨_, rfl⟩
          rw [hY] at f0 f1 HAS
          obtain ⟨y0, y1⟩ := Y
          simp only at f0 f1
          have HHI : Hid (hasI X (y0, y1) = (y0 == X || y1 == X)) := Lib.hid rfl
          obtain ⟨A0, hA0⟩ : ∃ A, (L.take j).all (hasI X) = A := ⟨_, rfl⟩
          obtain ⟨A1, hA1⟩ : ∃ A, (L.take (j + 1)).all (hasI X) = A := ⟨_, rfl⟩
          rw [hA0, hA1] at HAS
          rw [hA0]
          have HA1 := Lib.hid hA1
          clear hPf hb2 hY hA0 hA1
          have zc0 := cellH HNc.out 0
          have zc1 := cellH HNc.out 1
          have zp0 := cellH HNp.out 0
          have zp1 := cellH HNp.out 1
          simp only [List.getElem?_toArray, List.getElem?_cons_zero, List.getElem?_cons_succ] at zc0 zc1 zp0 zp1
          cases A0
          · have HV : Hid (A1 = false) := Lib.hid (by rw [HAS.out]; rfl)
            go_wp2_with fail
            go_roundw
            case rel => exact ⟨j + 1, HJL.out, by rw [HA1.out, HV.out], by go_num, HB, HNc, HNr, HNp, HP, HOW⟩
            case measure => have := HJL.out; simp [intOf]; omega
          cases g1 : (y0 == X)
          · cases g2 : (y1 == X)
            · have HV : Hid (A1 = false) := Lib.hid (by rw [HAS.out, HHI.out, g1, g2]; rfl)
              go_wp2_with fail
              go_roundw
              case rel => exact ⟨j + 1, HJL.out, by rw [HA1.out, HV.out], by go_num, HB, HNc, HNr, HNp, HP, HOW⟩
              case measure => have := HJL.out; simp [intOf]; omega
            · have HV : Hid (A1 = true) := Lib.hid (by rw [HAS.out, HHI.out, g1, g2]; rfl)
              go_wp2_with fail
              go_roundw
              case rel => exact ⟨j + 1, HJL.out, by rw [HA1.out, HV.out], by go_num, HB, HNc, HNr, HNp, HP, HOW⟩
              case measure => have := HJL.out; simp [intOf]; omega
          · have HV : Hid (A1 = true) := Lib.hid (by rw [HAS.out, HHI.out, g1]; rfl)
            go_wp2_with fail
            go_roundw
            case rel => exact ⟨j + 1, HJL.out, by rw [HA1.out, HV.out], by go_num, HB, HNc, HNr, HNp, HP, HOW⟩
            case measure => have := HJL.out; simp [intOf]; omega
        · obtain rfl : j = L.length := by omega
          have HTA : Hid ((L.take L.length).all (hasI X) = susB L X) := Lib.hid (by rw [List.take_length]; rfl)
          rw [HTA.out]
          clear HTA
          obtain ⟨SB, hSB⟩ : ∃ q, susB L X = q := ⟨_, rfl⟩
          rw [hSB] at HST ⊢
          clear hSB
          have zc0 := cellH HNc.out 0
          have zc1 := cellH HNc.out 1
          have zp0 := cellH HNp.out 0
          have zp1 := cellH HNp.out 1
          simp only [List.getElem?_toArray, List.getElem?_cons_zero, List.getElem?_cons_succ] at zc0 zc1 zp0 zp1
          cases SB
          · have HN2 : Hid (suR L ks (k + 1) = suR L ks k) := Lib.hid (by rw [HST.out]; rfl)
            go_wp2_with fail
            go_roundw
            case rel => exact ⟨k + 1, o, HKL.out, rfl, by go_num, Lib.hid (by rw [HN2.out]; exact HOW.out), HB, HNc, HNr, HNp, HP⟩
            case measure => have := HKL.out; simp [intOf]; omega
          · have HN2 : Hid (suR L ks (k + 1) = addI (suR L ks k) X) := Lib.hid (by rw [HST.out]; rfl)
            have HAD := Lib.hid (fun w' (h : OwI w' w.heap.size o (suR L ks k)) => add_any o (suR L ks k) X w' h.row h.cap HLN.out)
            unfold AddOut at HAD
            go_wp2_with fail
            refine (HAD.out _ HOW.out).mono ?_
            rintro e w9 ⟨v9, rfl, ho9, hb⟩
            have HO9 := Lib.hid (ho9.base HB.out.size)
            clear ho9
            clear zc0 zc1 zp0 zp1
            replace HB := Lib.hid (HB.out.trans (hb.mono HB.out.size))
            replace HNc := Lib.hid ((hb.block _ (Array.getElem?_eq_some_iff.1 HNc.out).1).trans HNc.out)
            replace HNr := Lib.hid ((hb.block _ (Array.getElem?_eq_some_iff.1 HNr.out).1).trans HNr.out)
            replace HNp := Lib.hid ((hb.block _ (Array.getElem?_eq_some_iff.1 HNp.out).1).trans HNp.out)
            replace HP := Lib.hid (HP.out.keep hb)
            clear hb
            go_wp2_with fail
            go_roundw
            case rel => exact ⟨k + 1, v9, HKL.out, rfl, by go_num, Lib.hid (by rw [HN2.out]; exact HO9.out), HB, HNc, HNr, HNp, HP⟩
            case measure => have := HKL.out; simp [intOf]; omega
    · obtain rfl : k = ks.length := by omega
      obtain ⟨oa, oc, rfl, _⟩ := HOW.out.row.form
      obtain ⟨NN, hNN⟩ : ∃ q, (suR L ks ks.length).length = q := ⟨_, rfl⟩
      rw [hNN] at HOW
      have HOW2 := Lib.hid (show OwI ((wr.setCell ⟨w.heap.size + 1, 0, none⟩ (.slice oa NN oc)).setCell ⟨w.heap.size + 1, 1, none⟩ (.int .i64 0)) w.heap.size (.slice oa NN oc) (suR L ks ks.length) from row_set (row_set HOW.out HNr.out tIN 0 (.slice oa NN oc)) (heap_same HNr.out 0 (.slice oa NN oc)) tIN 1 (.int .i64 0))
      rw [← HN.out] at HOW2
      rw [hNN]
      clear hNN
      have zc0 := cellH HNc.out 0
      have zc1 := cellH HNc.out 1
      have zr0 := cellH HNr.out 0
      have zr1 := cellH HNr.out 1
      simp only [List.getElem?_toArray, List.getElem?_cons_zero, List.getElem?_cons_succ] at zc0 zc1 zr0 zr1
      have zfr := freeH HNr.out
      go_wp2_with fail
      obtain ⟨y1, y2⟩ := set2 HNr.out HB.out (by omega) (.slice oa NN oc) (.int .i64 0)
      refine bodyPost_ret (results_cell_row Tryz.results10 _ _ (w.heap.size + 1) 39 _ (0, 0) _ rfl y1 Tryz.underlying39 rfl info_in2) rfl ?_
      exact ⟨_, rfl, HOW2.out.row, y2⟩
end Go.Proofs.YtpaihnjgpookjaaGreat
