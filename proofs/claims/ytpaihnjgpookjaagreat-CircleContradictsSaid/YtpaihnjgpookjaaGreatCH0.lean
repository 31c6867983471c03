/- The law CircleContradicts. -/
import Derived.Test.YtpaihnjgpookjaaGreatCG9
import Derived.Test.YtpaihnjgpookjaaGreatCG6
import Derived.Test.YtpaihnjgpookjaaGreatCF1
set_option linter.unusedVariables false
set_option linter.unusedSimpArgs false
namespace Go.Proofs.YtpaihnjgpookjaaGreat
open Go Go.RowKit

def clS (cs : List Ci) (ks : List Ck) : List Pi2 := if ccE cs ks = 0 then clK cs ks cs.length else []
theorem clS_len (cs : List Ci) (ks : List Ck) : (clS cs ks).length ≤ 100000 := by
  unfold clS
  split
  · rename_i h
    have ho := ccE_ok h
    have := clK_len ho cs.length (Nat.le_refl _)
    have := ho.n
    omega
  · simp
theorem suS_len (cs : List Ci) (ks : List Ck) : (suS cs ks).length ≤ 100000 := by
  unfold suS
  split
  · rename_i h
    have ho := ccE_ok h
    have hm := ho.m
    split
    · simp
    · have := suR_len (clK cs ks cs.length) ks ks.length; omega
  · simp
def PvOut (L : List Pi2) (E : Int) (w : World) (e : Ending) (w' : World) : Prop := ∃ a c, e = .returned (.tuple #[.slice a L.length c, .int .i64 E]) ∧ P2Row w' (.slice a L.length c) L ∧ Below w.heap.size w w'
def PwOut (L : List Pi2) (E : Int) (w : World) (e : Ending) (w' : World) : Prop := ∃ a c, e = .returned (.agg #[.slice a L.length c, .int .i64 E]) ∧ P2Row w' (.slice a L.length c) L ∧ Below w.heap.size w w'
def IvOut (L : List Int) (E : Int) (w : World) (e : Ending) (w' : World) : Prop := ∃ a c, e = .returned (.tuple #[.slice a L.length c, .int .i64 E]) ∧ INRow w' (.slice a L.length c) L ∧ Below w.heap.size w w'
def IwOut (L : List Int) (E : Int) (w : World) (e : Ending) (w' : World) : Prop := ∃ a c, e = .returned (.agg #[.slice a L.length c, .int .i64 E]) ∧ INRow w' (.slice a L.length c) L ∧ Below w.heap.size w w'
theorem ClOut.pv {cs : List Ci} {ks : List Ck} {w w' : World} {e : Ending} (h : ClOut cs ks w e w') : PvOut (clS cs ks) (ccE cs ks) w e w' := by
  obtain ⟨hb, h1, h2⟩ := h
  unfold clS
  by_cases h : ccE cs ks = 0
  · obtain ⟨v, he, hp⟩ := h2 h
    rw [if_pos h, h]
    obtain ⟨a, c, rfl, _⟩ := hp.form
    exact ⟨a, c, he, hp, hb⟩
  · rw [if_neg h]
    exact ⟨none, 0, h1 h, .inl ⟨_, _, rfl, rfl⟩, hb⟩
theorem RcOut.pw {cs : List Ci} {ks : List Ck} {w w' : World} {e : Ending} (h : RcOut cs ks w e w') : PwOut (clS cs ks) (ccE cs ks) w e w' := by
  obtain ⟨hb, h1, h2⟩ := h
  unfold clS
  by_cases h : ccE cs ks = 0
  · obtain ⟨v, he, hp⟩ := h2 h
    rw [if_pos h, h]
    obtain ⟨a, c, rfl, _⟩ := hp.form
    exact ⟨a, c, he, hp, hb⟩
  · rw [if_neg h]
    exact ⟨none, 0, h1 h, .inl ⟨_, _, rfl, rfl⟩, hb⟩
theorem SuOut.iv {L : List Int} {E : Int} {w w' : World} {e : Ending} (h : SuOut L E w e w') : IvOut L E w e w' := by
  obtain ⟨v, he, hp, hb⟩ := h
  obtain ⟨a, c, rfl, _⟩ := hp.form
  exact ⟨a, c, he, hp, hb⟩
theorem RsuOut.iw {L : List Int} {E : Int} {w w' : World} {e : Ending} (h : RsuOut L E w e w') : IwOut L E w e w' := by
  obtain ⟨v, he, hp, hb⟩ := h
  obtain ⟨a, c, rfl, _⟩ := hp.form
  exact ⟨a, c, he, hp, hb⟩
set_option maxRecDepth 100000 in
set_option maxHeartbeats 8000000 in
theorem contradicts_card (v1 v2 : Value) (cs : List Ci) (ks : List Ck) (w : World) (hv1 : CiRow w v1 cs) (hv2 : CkRow w v2 ks) (hl1 : cs.length ≤ 9223372036854775807) (hl2 : ks.length ≤ 9223372036854775807) :
    Calls Tryz.prog 3 #[.agg #[v1, v2]] w fun e w' => e = .returned (.bool true) ∧ Below w.heap.size w w' := by
  obtain ⟨a1, c1, rfl, _⟩ := hv1.form
  obtain ⟨a2, c2, rfl, _⟩ := hv2.form
  have HF := Lib.hid (fun w' => few_any a1 a2 cs.length c1 ks.length c2 w')
  have H1 := Lib.hid (fun w' (h : Below w.heap.size w w') => (Clashes_any (.slice a1 cs.length c1) (.slice a2 ks.length c2) cs ks w' (hv1.keep h) (hv2.keep h) hl1 hl2).mono fun e w'' h => h.pv)
  have H2 := Lib.hid (fun w' (h : Below w.heap.size w w') => (rClashes_any (.slice a1 cs.length c1) (.slice a2 ks.length c2) cs ks w' (hv1.keep h) (hv2.keep h) hl1 hl2).mono fun e w'' h => h.pw)
  have H3 := Lib.hid (fun w' (h : Below w.heap.size w w') => (Suspects_any (.slice a1 cs.length c1) (.slice a2 ks.length c2) cs ks w' (hv1.keep h) (hv2.keep h) hl1 hl2).mono fun e w'' h => h.iv)
  have H4 := Lib.hid (fun w' (h : Below w.heap.size w w') => (rSuspects_any (.slice a1 cs.length c1) (.slice a2 ks.length c2) cs ks w' (hv1.keep h) (hv2.keep h) hl1 hl2).mono fun e w'' h => h.iw)
  have H5 := Lib.hid (fun w' => sanity_any w')
  have HCLN := Lib.hid (clS_len cs ks)
  have HSLN := Lib.hid (suS_len cs ks)
  unfold PvOut at H1
  unfold PwOut at H2
  unfold IvOut at H3
  unfold IwOut at H4
  obtain ⟨E, hE⟩ : ∃ z, ccE cs ks = z := ⟨_, rfl⟩
  obtain ⟨CL, hCL⟩ : ∃ z, clS cs ks = z := ⟨_, rfl⟩
  obtain ⟨SL, hSL⟩ : ∃ z, suS cs ks = z := ⟨_, rfl⟩
  rw [hE, hCL] at H1 H2
  rw [hE, hSL] at H3 H4
  rw [hCL] at HCLN
  rw [hSL] at HSLN
  obtain ⟨n, hn⟩ : ∃ n, cs.length = n := ⟨_, rfl⟩
  obtain ⟨m, hm⟩ : ∃ n, ks.length = n := ⟨_, rfl⟩
  rw [hn, hm] at HF H1 H2 H3 H4 ⊢
  obtain ⟨B, hB⟩ : ∃ B, fwB n m = B := ⟨_, rfl⟩
  rw [hB] at HF
  clear hv1 hv2 hl1 hl2 hE hCL hSL hn hm hB
  obtain ⟨x0, xlt, xb⟩ := cells1 w #[.slice a1 n c1, .slice a2 m c2] 25 (Below.refl _ _)
  have HNc : Hid ((w.alloc (.cells #[.slice a1 n c1, .slice a2 m c2] 25)).heap[w.heap.size]? = some (.cells #[.slice a1 n c1, .slice a2 m c2] 25 (0, 0))) := Lib.hid x0
  have HB : Hid (Below w.heap.size w (w.alloc (.cells #[.slice a1 n c1, .slice a2 m c2] 25))) := Lib.hid xb
  obtain ⟨Z, hZ⟩ : ∃ Z, (w.alloc (.cells #[.slice a1 n c1, .slice a2 m c2] 25)) = Z := ⟨_, rfl⟩
  rw [hZ] at HB HNc
  have HZ := Lib.hid hZ
  clear hZ xlt xb x0
  go_enter Tryz.func3, Tryz.ntmps3
  go_wp2_with fail
  rw [HZ.out]
  refine (HF.out _).mono ?_
  rintro e w1 ⟨rfl, hb⟩
  replace HB := Lib.hid (HB.out.trans (hb.mono HB.out.size))
  replace HNc := Lib.hid ((hb.block _ (Array.getElem?_eq_some_iff.1 HNc.out).1).trans HNc.out)
  clear hb
  cases B
  · skip
    have zc0 := cellH HNc.out 0
    have zc1 := cellH HNc.out 1
    simp only [List.getElem?_toArray, List.getElem?_cons_zero, List.getElem?_cons_succ] at zc0 zc1
    go_wp2_with fail
    refine (H5.out _).mono ?_
    rintro e w2 ⟨rfl, hb⟩
    clear zc0 zc1
    replace HB := Lib.hid (HB.out.trans (hb.mono HB.out.size))
    replace HNc := Lib.hid ((hb.block _ (Array.getElem?_eq_some_iff.1 HNc.out).1).trans HNc.out)
    clear hb
    go_wp2_with fail
    go_ret
    exact ⟨rfl, HB.out⟩
  have zc0 := cellH HNc.out 0
  have zc1 := cellH HNc.out 1
  simp only [List.getElem?_toArray, List.getElem?_cons_zero, List.getElem?_cons_succ] at zc0 zc1
  go_wp2_with fail
  refine (H1.out _ HB.out).mono ?_
  rintro e w3 ⟨p1, q1, rfl, hp1, hb⟩
  clear zc0 zc1
  replace HB := Lib.hid (HB.out.trans (hb.mono HB.out.size))
  replace HNc := Lib.hid ((hb.block _ (Array.getElem?_eq_some_iff.1 HNc.out).1).trans HNc.out)
  clear hb
  have HP1 := Lib.hid hp1
  clear hp1
  have zc0 := cellH HNc.out 0
  have zc1 := cellH HNc.out 1
  simp only [List.getElem?_toArray, List.getElem?_cons_zero, List.getElem?_cons_succ] at zc0 zc1
  go_wp2_with fail
  refine (H2.out _ HB.out).mono ?_
  rintro e w4 ⟨p2, q2, rfl, hp2, hb⟩
  clear zc0 zc1
  replace HB := Lib.hid (HB.out.trans (hb.mono HB.out.size))
  replace HNc := Lib.hid ((hb.block _ (Array.getElem?_eq_some_iff.1 HNc.out).1).trans HNc.out)
  replace HP1 := Lib.hid (HP1.out.keep hb)
  clear hb
  have HP2 := Lib.hid hp2
  clear hp2
  have hAlc : Below w4.heap.size w4 (w4.alloc (.cells #[.slice p2 CL.length q2, .int .i64 E] 33)) := (Below.refl _ w4).alloc (Nat.le_refl _) _
  have HSu : Hid (w.heap.size ≤ w4.heap.size) := Lib.hid HB.out.size
  have HNu : Hid ((w4.alloc (.cells #[.slice p2 CL.length q2, .int .i64 E] 33)).heap[w4.heap.size]? = some (.cells #[.slice p2 CL.length q2, .int .i64 E] 33 (0, 0))) := Lib.hid (heap_alloc_new _ _)
  replace HB := Lib.hid (HB.out.trans (hAlc.mono HB.out.size))
  have HXc_u : Hid (w.heap.size ≠ w4.heap.size) := Lib.hid (Nat.ne_of_lt (Array.getElem?_eq_some_iff.1 HNc.out).1)
  replace HNc := Lib.hid ((hAlc.block _ (Array.getElem?_eq_some_iff.1 HNc.out).1).trans HNc.out)
  replace HP1 := Lib.hid (HP1.out.keep hAlc)
  replace HP2 := Lib.hid (HP2.out.keep hAlc)
  obtain ⟨au, hau⟩ : ∃ qq, w4.alloc (.cells #[.slice p2 CL.length q2, .int .i64 E] 33) = qq := ⟨_, rfl⟩
  obtain ⟨bku, hbu⟩ : ∃ qq, w4.heap.size = qq := ⟨_, rfl⟩
  rw [hau] at HB HNu HNc HP1 HP2
  rw [hbu] at HNu HSu HXc_u
  clear hAlc
  have zc0 := cellH HNc.out 0
  have zc1 := cellH HNc.out 1
  simp only [List.getElem?_toArray, List.getElem?_cons_zero, List.getElem?_cons_succ] at zc0 zc1
  go_wp2_with fail
  try clear hau hbu
  refine (H3.out _ HB.out).mono ?_
  rintro e w5 ⟨p3, q3, rfl, hp3, hb⟩
  clear zc0 zc1
  replace HB := Lib.hid (HB.out.trans (hb.mono HB.out.size))
  replace HNc := Lib.hid ((hb.block _ (Array.getElem?_eq_some_iff.1 HNc.out).1).trans HNc.out)
  replace HNu := Lib.hid ((hb.block _ (Array.getElem?_eq_some_iff.1 HNu.out).1).trans HNu.out)
  replace HP1 := Lib.hid (HP1.out.keep hb)
  replace HP2 := Lib.hid (HP2.out.keep hb)
  clear hb
  have HP3 := Lib.hid hp3
  clear hp3
  have zc0 := cellH HNc.out 0
  have zc1 := cellH HNc.out 1
  simp only [List.getElem?_toArray, List.getElem?_cons_zero, List.getElem?_cons_succ] at zc0 zc1
  go_wp2_with fail
  refine (H4.out _ HB.out).mono ?_
  rintro e w6 ⟨p4, q4, rfl, hp4, hb⟩
  clear zc0 zc1
  replace HB := Lib.hid (HB.out.trans (hb.mono HB.out.size))
  replace HNc := Lib.hid ((hb.block _ (Array.getElem?_eq_some_iff.1 HNc.out).1).trans HNc.out)
  replace HNu := Lib.hid ((hb.block _ (Array.getElem?_eq_some_iff.1 HNu.out).1).trans HNu.out)
  replace HP1 := Lib.hid (HP1.out.keep hb)
  replace HP2 := Lib.hid (HP2.out.keep hb)
  replace HP3 := Lib.hid (HP3.out.keep hb)
  clear hb
  have HP4 := Lib.hid hp4
  clear hp4
  have hAlc : Below w6.heap.size w6 (w6.alloc (.cells #[.slice p4 SL.length q4, .int .i64 E] 39)) := (Below.refl _ w6).alloc (Nat.le_refl _) _
  have HSsv : Hid (w.heap.size ≤ w6.heap.size) := Lib.hid HB.out.size
  have HNsv : Hid ((w6.alloc (.cells #[.slice p4 SL.length q4, .int .i64 E] 39)).heap[w6.heap.size]? = some (.cells #[.slice p4 SL.length q4, .int .i64 E] 39 (0, 0))) := Lib.hid (heap_alloc_new _ _)
  replace HB := Lib.hid (HB.out.trans (hAlc.mono HB.out.size))
  have HXc_sv : Hid (w.heap.size ≠ w6.heap.size) := Lib.hid (Nat.ne_of_lt (Array.getElem?_eq_some_iff.1 HNc.out).1)
  have HXu_sv : Hid (bku ≠ w6.heap.size) := Lib.hid (Nat.ne_of_lt (Array.getElem?_eq_some_iff.1 HNu.out).1)
  replace HNc := Lib.hid ((hAlc.block _ (Array.getElem?_eq_some_iff.1 HNc.out).1).trans HNc.out)
  replace HNu := Lib.hid ((hAlc.block _ (Array.getElem?_eq_some_iff.1 HNu.out).1).trans HNu.out)
  replace HP1 := Lib.hid (HP1.out.keep hAlc)
  replace HP2 := Lib.hid (HP2.out.keep hAlc)
  replace HP3 := Lib.hid (HP3.out.keep hAlc)
  replace HP4 := Lib.hid (HP4.out.keep hAlc)
  obtain ⟨asv, hasv⟩ : ∃ qq, w6.alloc (.cells #[.slice p4 SL.length q4, .int .i64 E] 39) = qq := ⟨_, rfl⟩
  obtain ⟨bksv, hbsv⟩ : ∃ qq, w6.heap.size = qq := ⟨_, rfl⟩
  rw [hasv] at HB HNsv HNc HNu HP1 HP2 HP3 HP4
  rw [hbsv] at HNsv HSsv HXc_sv HXu_sv
  clear hAlc
  have zc0 := cellH HNc.out 0
  have zc1 := cellH HNc.out 1
  simp only [List.getElem?_toArray, List.getElem?_cons_zero, List.getElem?_cons_succ] at zc0 zc1
  go_wp2_with fail
  try clear hasv hbsv
  refine (H5.out _).mono ?_
  rintro e w7 ⟨rfl, hb⟩
  clear zc0 zc1
  replace HB := Lib.hid (HB.out.trans (hb.mono HB.out.size))
  replace HNc := Lib.hid ((hb.block _ (Array.getElem?_eq_some_iff.1 HNc.out).1).trans HNc.out)
  replace HNu := Lib.hid ((hb.block _ (Array.getElem?_eq_some_iff.1 HNu.out).1).trans HNu.out)
  replace HNsv := Lib.hid ((hb.block _ (Array.getElem?_eq_some_iff.1 HNsv.out).1).trans HNsv.out)
  replace HP1 := Lib.hid (HP1.out.keep hb)
  replace HP2 := Lib.hid (HP2.out.keep hb)
  replace HP3 := Lib.hid (HP3.out.keep hb)
  replace HP4 := Lib.hid (HP4.out.keep hb)
  clear hb
  have HSP := Lib.hid (samePairs_any (.slice p1 CL.length q1) (.slice p2 CL.length q2) CL CL w7 HP1.out HP2.out HCLN.out HCLN.out)
  have zu0 := cellH HNu.out 0
  have zu1 := cellH HNu.out 1
  have zsv0 := cellH HNsv.out 0
  have zsv1 := cellH HNsv.out 1
  simp only [List.getElem?_toArray, List.getElem?_cons_zero, List.getElem?_cons_succ] at zu0 zu1 zsv0 zsv1
  go_wp2_with fail
  refine (HSP.out).mono ?_
  rintro e w8 ⟨rfl, hb⟩
  clear zu0 zu1 zsv0 zsv1
  replace HB := Lib.hid (HB.out.trans (hb.mono HB.out.size))
  replace HNc := Lib.hid ((hb.block _ (Array.getElem?_eq_some_iff.1 HNc.out).1).trans HNc.out)
  replace HNu := Lib.hid ((hb.block _ (Array.getElem?_eq_some_iff.1 HNu.out).1).trans HNu.out)
  replace HNsv := Lib.hid ((hb.block _ (Array.getElem?_eq_some_iff.1 HNsv.out).1).trans HNsv.out)
  replace HP1 := Lib.hid (HP1.out.keep hb)
  replace HP2 := Lib.hid (HP2.out.keep hb)
  replace HP3 := Lib.hid (HP3.out.keep hb)
  replace HP4 := Lib.hid (HP4.out.keep hb)
  clear hb
  have HSI := Lib.hid (pSameInts_any (.slice p3 SL.length q3) (.slice p4 SL.length q4) SL SL w8 HP3.out HP4.out (by have := HSLN.out; omega) (by have := HSLN.out; omega))
  have zu0 := cellH HNu.out 0
  have zu1 := cellH HNu.out 1
  have zsv0 := cellH HNsv.out 0
  have zsv1 := cellH HNsv.out 1
  simp only [List.getElem?_toArray, List.getElem?_cons_zero, List.getElem?_cons_succ] at zu0 zu1 zsv0 zsv1
  clear HSP
  go_wp2_with fail
  refine (HSI.out).mono ?_
  rintro e w9 ⟨rfl, hb⟩
  clear zu0 zu1 zsv0 zsv1
  replace HB := Lib.hid (HB.out.trans (hb.mono HB.out.size))
  replace HNc := Lib.hid ((hb.block _ (Array.getElem?_eq_some_iff.1 HNc.out).1).trans HNc.out)
  replace HNu := Lib.hid ((hb.block _ (Array.getElem?_eq_some_iff.1 HNu.out).1).trans HNu.out)
  replace HNsv := Lib.hid ((hb.block _ (Array.getElem?_eq_some_iff.1 HNsv.out).1).trans HNsv.out)
  replace HP1 := Lib.hid (HP1.out.keep hb)
  replace HP2 := Lib.hid (HP2.out.keep hb)
  replace HP3 := Lib.hid (HP3.out.keep hb)
  replace HP4 := Lib.hid (HP4.out.keep hb)
  clear hb
  have zu0 := cellH HNu.out 0
  have zu1 := cellH HNu.out 1
  have zsv0 := cellH HNsv.out 0
  have zsv1 := cellH HNsv.out 1
  simp only [List.getElem?_toArray, List.getElem?_cons_zero, List.getElem?_cons_succ] at zu0 zu1 zsv0 zsv1
  go_wp2_with fail
  go_ret
  exact ⟨by simp, HB.out⟩
end Go.Proofs.YtpaihnjgpookjaaGreat
