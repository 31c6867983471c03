/- Package circle: Rests. -/
import Derived.Test.YtpaihnjgpookjaaCC6
set_option linter.unusedVariables false
set_option linter.unusedSimpArgs false
namespace Go.Proofs.Ytpaihnjgpookjaa
open Go Go.RowKit

def rsLo (cs : List Ci) (ks : List Ck) (id t : Int) : Int := rsI (fun h => lowI ((ciF cs id).getD .nil).dr h t) (zrL cs ks id t) (-300) (dlL ((ciF cs id).getD .nil) ks)
def rsHi (cs : List Ci) (ks : List Ck) (id t : Int) : Int := rsI (fun h => highI ((ciF cs id).getD .nil).dr h t) (zrH cs ks id t) 300 (dlL ((ciF cs id).getD .nil) ks)
/-- What Rests answers. -/
def rsV (cs : List Ci) (ks : List Ck) (id t : Int) : Value :=
  if zrE cs ks id t = 0 then .tuple #[.int .i64 (rsLo cs ks id t), .int .i64 (rsHi cs ks id t), .int .i64 0] else .tuple #[.int .i64 0, .int .i64 0, .int .i64 (zrE cs ks id t)]
set_option maxRecDepth 100000 in
set_option maxHeartbeats 8000000 in
theorem Rests_any (v1 v2 : Value) (cs : List Ci) (ks : List Ck) (id t : Int) (w : World) (hv1 : CiRow w v1 cs) (hv2 : CkRow w v2 ks) (hl1 : cs.length ≤ 9223372036854775807) (hl2 : ks.length ≤ 9223372036854775807) :
    Calls Try.prog 27 #[.agg #[v1, v2], .int .i64 id, .int .i64 t] w fun e w' => e = .returned (rsV cs ks id t) ∧ Below w.heap.size w w' := by
  have HCH := Lib.hid (fun w' (h : Below w.heap.size w w') => cCheck_any v1 v2 cs ks w' (hv1.keep h) (hv2.keep h) hl1 hl2)
  have HDA := Lib.hid (fun w' (h : Below w.heap.size w w') (ho : CcOk cs ks) => dialAt_any v1 v2 cs ks id t w' (hv1.keep h) (hv2.keep h) ho)
  have HOK := Lib.hid (ccE_ok (cs := cs) (ks := ks))
  have HTT := Lib.hid (fun (ho : CcOk cs ks) z h => dlL_ok ho (id := id) (z := z) h)
  have HCI := Lib.hid (fun (ho : CcOk cs ks) z h => ciF_ok ho (id := id) (z := z) h)
  have HLE := Lib.hid (fun (ho : CcOk cs ks) z => dlL_len ho z)
  have HV : Hid (rsV cs ks id t = _) := Lib.hid (rsV.eq_1 cs ks id t)
  have HE : Hid (zrE cs ks id t = _) := Lib.hid (zrE.eq_1 cs ks id t)
  have HZL : Hid (∀ z, ciF cs id = some z → rsLo cs ks id t = rsI (fun h => lowI z.dr h t) (spLo z.dr (dlL z ks) t) (-300) (dlL z ks) ∧ rsHi cs ks id t = rsI (fun h => highI z.dr h t) (spHi z.dr (dlL z ks) t) 300 (dlL z ks)) := Lib.hid (fun z hz => by unfold rsLo rsHi zrL zrH; rw [hz]; exact ⟨rfl, rfl⟩)
  obtain ⟨V, hV⟩ : ∃ V, rsV cs ks id t = V := ⟨_, rfl⟩
  obtain ⟨E, hE⟩ : ∃ E, zrE cs ks id t = E := ⟨_, rfl⟩
  obtain ⟨F, hF⟩ : ∃ F, ccE cs ks = F := ⟨_, rfl⟩
  rw [hV, hE] at HV
  rw [hV]
  rw [hE, hF] at HE
  rw [hF] at HCH HOK
  clear hV hE hF hv1 hv2
  go_enter Try.func27, Try.ntmps27
  go_wp2_with fail
  have HA := Lib.hid (fun W' => two_cells w #[v1, v2] #[.int .i64 t] 46 3 (W := W'))
  have HB0 := Lib.hid (Below.refl ((w.alloc (.cells #[v1, v2] 46)).alloc (.cells #[.int .i64 t] 3)).heap.size ((w.alloc (.cells #[v1, v2] 46)).alloc (.cells #[.int .i64 t] 3)))
  obtain ⟨Z, hZ⟩ : ∃ Z, (w.alloc (.cells #[v1, v2] 46)).alloc (.cells #[.int .i64 t] 3) = Z := ⟨_, rfl⟩
  rw [hZ] at HA HB0 ⊢
  have HRD : Hid (∀ W', Below Z.heap.size Z W' → Below w.heap.size w W') := Lib.hid (fun W' h => (HA.out W' h).2.2.2)
  clear hZ
  refine (HCH.out Z (HRD.out Z HB0.out)).mono ?_
  rintro e w1 ⟨rfl, hb1⟩
  have HB1 := Lib.hid hb1
  clear hb1
  have q0 := cellH (HA.out _ HB1.out).1 0
  have q1 := cellH (HA.out _ HB1.out).1 1
  have r0 := cellH (HA.out _ HB1.out).2.1 0
  have rf := freeH (HA.out _ HB1.out).2.1
  simp only [List.getElem?_toArray, List.getElem?_cons_zero, List.getElem?_cons_succ] at q0 q1 r0
  by_cases h0 : F = 0
  case neg =>
    have HN : Hid (E = F) := Lib.hid (by rw [HE.out, if_neg h0])
    have h0' : (F != 0) = true := by simpa using h0
    have HNE := Lib.hid h0
    clear h0
    go_wp2_with fail
    go_ret3
    exact ⟨by rw [HV.out, HN.out, if_neg HNE.out]; rfl, HRD.out _ HB1.out⟩
  subst h0
  have HO := Lib.hid (HOK.out rfl)
  have HE2 : Hid (E = dtE (ciF cs id) ks t) := Lib.hid (by rw [HE.out, if_pos rfl])
  go_wp2_with fail
  refine (HDA.out w1 (HRD.out w1 HB1.out) HO.out).mono ?_
  rintro e w2 ⟨hb2, hne, hz⟩
  have HB2 := Lib.hid (HB1.out.trans (hb2.mono HB1.out.size))
  clear hb2 q0 q1 r0 rf
  rw [← HE2.out] at hne hz
  by_cases h0 : E = 0
  case neg =>
    have he := hne h0
    subst he
    have h0' : (E != 0) = true := by simpa using h0
    have HNE := Lib.hid h0
    clear h0 hne hz
    have HB3 : Hid (Below Z.heap.size Z (w2.alloc (.cells #[.int .i64 0, .int .i64 0, .int .i64 0, .int .i64 0, .int .i64 0, .int .i64 0, .int .i64 0, .int .i64 0, .slice none 0 0] 112))) := Lib.hid (HB2.out.alloc HB2.out.size _)
    have q0 := cellH (HA.out _ HB3.out).1 0
    have q1 := cellH (HA.out _ HB3.out).1 1
    have r0 := cellH (HA.out _ HB3.out).2.1 0
    have rf := freeH (HA.out _ HB3.out).2.1
    simp only [List.getElem?_toArray, List.getElem?_cons_zero, List.getElem?_cons_succ] at q0 q1 r0
    unfold dl0
    go_wp2_with fail
    go_ret3
    exact ⟨by rw [HV.out, if_neg HNE.out]; rfl, HRD.out _ HB3.out⟩
  obtain ⟨z, v, hzv, rfl, hr, hO⟩ := hz h0
  have hzo := Ci.ok_iff.1 (HCI.out HO.out z hzv)
  have HSP : Hid (∀ w', Below w2.heap.size w2 w' → Calls Try.prog 59 #[dlV z v, .int .i64 t] w' fun e w'' => e = .returned (.agg #[.int .i64 (spLo z.dr (dlL z ks) t), .int .i64 (spHi z.dr (dlL z ks) t)]) ∧ Below w'.heap.size w' w'') := Lib.hid (by
    have hdt := HE2.out
    rw [hzv, h0] at hdt
    unfold dtE at hdt
    have hct : ciB t z.f z.t = true := by
      cases hc : ciB t z.f z.t
      · rw [hc] at hdt; simp at hdt
      · rfl
    rw [ci_iff] at hct
    exact fun w' hw => span_any z v (dlL z ks) t w' (hr.keep hw) (by have := HLE.out HO.out z; omega) (by omega) (by omega) (HTT.out HO.out z hzv))
  have HZS := Lib.hid (HZL.out z hzv)
  have HE0 := Lib.hid h0
  have HCT : Hid (0 ≤ t ∧ t ≤ 1048576) := Lib.hid (by
    have hdt := HE2.out
    rw [hzv, h0] at hdt
    unfold dtE at hdt
    have hct : ciB t z.f z.t = true := by
      cases hc : ciB t z.f z.t
      · rw [hc] at hdt; simp at hdt
      · rfl
    rw [ci_iff] at hct
    omega)
  have HDR : Hid (0 ≤ z.dr ∧ z.dr ≤ 60) := Lib.hid (by omega)
  have HTH := Lib.hid (HTT.out HO.out z hzv)
  have HLN : Hid ((dlL z ks).length ≤ 100) := Lib.hid (by have := HLE.out HO.out z; omega)
  obtain ⟨L, hL⟩ : ∃ L, dlL z ks = L := ⟨_, rfl⟩
  rw [hL] at HSP HZS HTH HLN
  have hr2 := hr
  rw [hL] at hr2
  have HR2 := Lib.hid hr2
  clear hr2
  obtain ⟨g, n, cap, C, rfl, hC⟩ := hO
  obtain ⟨lo, hlo⟩ : ∃ x, spLo z.dr L t = x := ⟨_, rfl⟩
  obtain ⟨hi, hhi⟩ : ∃ x, spHi z.dr L t = x := ⟨_, rfl⟩
  rw [hlo, hhi] at HSP HZS
  clear hlo hhi
  obtain ⟨zi, zx, zy, zf, zt, zl, zh, dr⟩ := z
  unfold dlV at HSP ⊢
  simp only at HSP HZS HDR ⊢
  subst h0
  have hB3 : Below w2.heap.size w2 (w2.alloc (.cells #[.int .i64 zi, .int .i64 zx, .int .i64 zy, .int .i64 zf, .int .i64 zt, .int .i64 zl, .int .i64 zh, .int .i64 dr, .slice (some ⟨g, 0, none⟩) n cap] 112)) := (Below.refl _ w2).alloc (Nat.le_refl _) _
  have HB3 : Hid (Below Z.heap.size Z (w2.alloc (.cells #[.int .i64 zi, .int .i64 zx, .int .i64 zy, .int .i64 zf, .int .i64 zt, .int .i64 zl, .int .i64 zh, .int .i64 dr, .slice (some ⟨g, 0, none⟩) n cap] 112))) := Lib.hid (HB2.out.alloc HB2.out.size _)
  have HW : Hid ((w2.alloc (.cells #[.int .i64 zi, .int .i64 zx, .int .i64 zy, .int .i64 zf, .int .i64 zt, .int .i64 zl, .int .i64 zh, .int .i64 dr, .slice (some ⟨g, 0, none⟩) n cap] 112)).heap[w2.heap.size]? = some (.cells #[.int .i64 zi, .int .i64 zx, .int .i64 zy, .int .i64 zf, .int .i64 zt, .int .i64 zl, .int .i64 zh, .int .i64 dr, .slice (some ⟨g, 0, none⟩) n cap] 112 (0, 0))) := Lib.hid (heap_alloc_new _ _)
  have q0 := cellH (HA.out _ HB3.out).1 0
  have q1 := cellH (HA.out _ HB3.out).1 1
  have r0 := cellH (HA.out _ HB3.out).2.1 0
  have rf := freeH (HA.out _ HB3.out).2.1
  simp only [List.getElem?_toArray, List.getElem?_cons_zero, List.getElem?_cons_succ] at q0 q1 r0
  have d0 := cellH HW.out 0
  have d1 := cellH HW.out 1
  have d2 := cellH HW.out 2
  have d3 := cellH HW.out 3
  have d4 := cellH HW.out 4
  have d5 := cellH HW.out 5
  have d6 := cellH HW.out 6
  have d7 := cellH HW.out 7
  have d8 := cellH HW.out 8
  simp only [List.getElem?_toArray, List.getElem?_cons_zero, List.getElem?_cons_succ] at d0 d1 d2 d3 d4 d5 d6 d7 d8
  have HSP3 := Lib.hid (HSP.out _ hB3)
  have HR3 := Lib.hid (HR2.out.keep hB3)
  obtain ⟨Y, hY⟩ : ∃ Y, w2.alloc (.cells #[.int .i64 zi, .int .i64 zx, .int .i64 zy, .int .i64 zf, .int .i64 zt, .int .i64 zl, .int .i64 zh, .int .i64 dr, .slice (some ⟨g, 0, none⟩) n cap] 112) = Y := ⟨_, rfl⟩
  rw [hY] at HB3 HW HSP3 HR3 q0 q1 r0 rf d0 d1 d2 d3 d4 d5 d6 d7 d8
  obtain ⟨db, hdb⟩ : ∃ n, w2.heap.size = n := ⟨_, rfl⟩
  rw [hdb] at HW d0 d1 d2 d3 d4 d5 d6 d7 d8
  clear hne hz hzv hr hC hzo hL hB3 HSP
  go_wp2_with fail
  clear hY
  refine HSP3.out.mono ?_
  rintro e w4 ⟨rfl, hb4⟩
  have HB4 := Lib.hid (HB3.out.trans (hb4.mono HB3.out.size))
  have HR4 := Lib.hid (HR3.out.keep hb4)
  have HW4 := Lib.hid ((hb4.block _ (Array.getElem?_eq_some_iff.1 HW.out).1).trans HW.out)
  clear hb4 q0 q1 r0 rf d0 d1 d2 d3 d4 d5 d6 d7 d8 HSP3
  have hbx : Below w4.heap.size w4 (w4.alloc (.cells #[.int .i64 lo, .int .i64 hi] 49)) := (Below.refl _ w4).alloc (Nat.le_refl _) _
  have HBX1 := Lib.hid (HB4.out.trans (hbx.mono HB4.out.size))
  have HRX1 := Lib.hid (HR4.out.keep hbx)
  have HWX1 := Lib.hid ((hbx.block _ (Array.getElem?_eq_some_iff.1 HW4.out).1).trans HW4.out)
  have HSX1 : Hid ((w4.alloc (.cells #[.int .i64 lo, .int .i64 hi] 49)).heap[w4.heap.size]? = some (.cells #[.int .i64 lo, .int .i64 hi] 49 (0, 0))) := Lib.hid (heap_alloc_new _ _)
  obtain ⟨X1, hX1⟩ : ∃ X, w4.alloc (.cells #[.int .i64 lo, .int .i64 hi] 49) = X := ⟨_, rfl⟩
  obtain ⟨sb, hsb⟩ : ∃ x, w4.heap.size = x := ⟨_, rfl⟩
  rw [hX1] at HBX1 HRX1 HWX1 HSX1
  rw [hsb] at HSX1
  clear hbx HR4 HW4
  have HRC1 : Hid (Calls Try.prog 64 #[.agg #[.int .i64 zi, .int .i64 zx, .int .i64 zy, .int .i64 zf, .int .i64 zt, .int .i64 zl, .int .i64 zh, .int .i64 dr, .slice (some ⟨g, 0, none⟩) n cap], .int .i64 lo, .int .i64 (-300), .func (.func 65) #[] #[.pointer (some ⟨db, 0, none⟩), .pointer (some ⟨w.heap.size + 1, 0, none⟩)]] X1 fun e w' => e = .returned (.int .i64 (rsI (fun h => lowI dr h t) lo (-300) L)) ∧ Below X1.heap.size X1 w') := Lib.hid (rest_any ⟨zi, zx, zy, zf, zt, zl, zh, dr⟩ (.slice (some ⟨g, 0, none⟩) n cap) L lo (-300) 65 _ _ (fun h => lowI dr h t) X1 HRX1.out HLN.out (enters_of Try.func65 (by kernel_rfl) rfl) (fun w' h hb hm => rests1_any ⟨zi, zx, zy, zf, zt, zl, zh, dr⟩ (.slice (some ⟨g, 0, none⟩) n cap) h t db (w.heap.size + 1) w' HDR.out HCT.out (HTH.out h hm) ((hb.block _ (Array.getElem?_eq_some_iff.1 HWX1.out).1).trans HWX1.out) ((HA.out w' (HBX1.out.trans (hb.mono HBX1.out.size))).2.1)))
  have d0 := cellH HWX1.out 0
  have d1 := cellH HWX1.out 1
  have d2 := cellH HWX1.out 2
  have d3 := cellH HWX1.out 3
  have d4 := cellH HWX1.out 4
  have d5 := cellH HWX1.out 5
  have d6 := cellH HWX1.out 6
  have d7 := cellH HWX1.out 7
  have d8 := cellH HWX1.out 8
  have s0 := cellH HSX1.out 0
  have s1 := cellH HSX1.out 1
  have q0 := cellH (HA.out _ HBX1.out).1 0
  have q1 := cellH (HA.out _ HBX1.out).1 1
  have r0 := cellH (HA.out _ HBX1.out).2.1 0
  simp only [List.getElem?_toArray, List.getElem?_cons_zero, List.getElem?_cons_succ] at d0 d1 d2 d3 d4 d5 d6 d7 d8 s0 s1 q0 q1 r0
  go_wp2_with fail
  clear hX1
  refine HRC1.out.mono ?_
  rintro e w5 ⟨rfl, hb5⟩
  have HBX2 := Lib.hid (HBX1.out.trans (hb5.mono HBX1.out.size))
  have HRX2 := Lib.hid (HRX1.out.keep hb5)
  have HWX2 := Lib.hid ((hb5.block _ (Array.getElem?_eq_some_iff.1 HWX1.out).1).trans HWX1.out)
  have HSX2 := Lib.hid ((hb5.block _ (Array.getElem?_eq_some_iff.1 HSX1.out).1).trans HSX1.out)
  clear hb5 s0 s1 q0 q1 r0 HRC1 d0 d1 d2 d3 d4 d5 d6 d7 d8
  have HRC2 : Hid (Calls Try.prog 64 #[.agg #[.int .i64 zi, .int .i64 zx, .int .i64 zy, .int .i64 zf, .int .i64 zt, .int .i64 zl, .int .i64 zh, .int .i64 dr, .slice (some ⟨g, 0, none⟩) n cap], .int .i64 hi, .int .i64 300, .func (.func 67) #[] #[.pointer (some ⟨db, 0, none⟩), .pointer (some ⟨w.heap.size + 1, 0, none⟩)]] w5 fun e w' => e = .returned (.int .i64 (rsI (fun h => highI dr h t) hi (300) L)) ∧ Below w5.heap.size w5 w') := Lib.hid (rest_any ⟨zi, zx, zy, zf, zt, zl, zh, dr⟩ (.slice (some ⟨g, 0, none⟩) n cap) L hi (300) 67 _ _ (fun h => highI dr h t) w5 HRX2.out HLN.out (enters_of Try.func67 (by kernel_rfl) rfl) (fun w' h hb hm => rests2_any ⟨zi, zx, zy, zf, zt, zl, zh, dr⟩ (.slice (some ⟨g, 0, none⟩) n cap) h t db (w.heap.size + 1) w' HDR.out HCT.out (HTH.out h hm) ((hb.block _ (Array.getElem?_eq_some_iff.1 HWX2.out).1).trans HWX2.out) ((HA.out w' (HBX2.out.trans (hb.mono HBX2.out.size))).2.1)))
  have d0 := cellH HWX2.out 0
  have d1 := cellH HWX2.out 1
  have d2 := cellH HWX2.out 2
  have d3 := cellH HWX2.out 3
  have d4 := cellH HWX2.out 4
  have d5 := cellH HWX2.out 5
  have d6 := cellH HWX2.out 6
  have d7 := cellH HWX2.out 7
  have d8 := cellH HWX2.out 8
  have s0 := cellH HSX2.out 0
  have s1 := cellH HSX2.out 1
  have q0 := cellH (HA.out _ HBX2.out).1 0
  have q1 := cellH (HA.out _ HBX2.out).1 1
  have r0 := cellH (HA.out _ HBX2.out).2.1 0
  simp only [List.getElem?_toArray, List.getElem?_cons_zero, List.getElem?_cons_succ] at d0 d1 d2 d3 d4 d5 d6 d7 d8 s0 s1 q0 q1 r0
  go_wp2_with fail
  refine HRC2.out.mono ?_
  rintro e w6 ⟨rfl, hb6⟩
  have HB6 := Lib.hid (HBX2.out.trans (hb6.mono HBX2.out.size))
  clear hb6 s0 s1 q0 q1 r0 HRC2 d0 d1 d2 d3 d4 d5 d6 d7 d8
  go_wp2_with fail
  go_ret3
  have hv := HV.out
  rw [if_pos trivial, HZS.out.1, HZS.out.2] at hv
  exact ⟨by rw [hv]; rfl, HRD.out _ HB6.out⟩
end Go.Proofs.Ytpaihnjgpookjaa
