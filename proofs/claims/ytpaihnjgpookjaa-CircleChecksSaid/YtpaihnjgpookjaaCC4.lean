/- Package circle: Zero. -/
import Derived.Test.YtpaihnjgpookjaaCC3
import Derived.Test.YtpaihnjgpookjaaCB8
set_option linter.unusedVariables false
set_option linter.unusedSimpArgs false
namespace Go.Proofs.Ytpaihnjgpookjaa
open Go Go.RowKit

/-- The code that the zero of a circle at a minute answers. -/
def zrE (cs : List Ci) (ks : List Ck) (id t : Int) : Int := if ccE cs ks = 0 then dtE (ciF cs id) ks t else ccE cs ks
def zrL (cs : List Ci) (ks : List Ck) (id t : Int) : Int := spLo ((ciF cs id).getD .nil).dr (dlL ((ciF cs id).getD .nil) ks) t
def zrH (cs : List Ci) (ks : List Ck) (id t : Int) : Int := spHi ((ciF cs id).getD .nil).dr (dlL ((ciF cs id).getD .nil) ks) t
def zrV (cs : List Ci) (ks : List Ck) (id t : Int) : Value :=
  if zrE cs ks id t = 0 then .tuple #[.agg #[.int .i64 (zrL cs ks id t), .int .i64 (zrH cs ks id t)], .int .i64 0] else .tuple #[.agg #[.int .i64 0, .int .i64 0], .int .i64 (zrE cs ks id t)]
set_option maxRecDepth 100000 in
set_option maxHeartbeats 8000000 in
theorem Zero_any (v1 v2 : Value) (cs : List Ci) (ks : List Ck) (id t : Int) (w : World) (hv1 : CiRow w v1 cs) (hv2 : CkRow w v2 ks) (hl1 : cs.length ≤ 9223372036854775807) (hl2 : ks.length ≤ 9223372036854775807) :
    Calls Try.prog 25 #[.agg #[v1, v2], .int .i64 id, .int .i64 t] w fun e w' => e = .returned (zrV cs ks id t) ∧ Below w.heap.size w w' := by
  have HCH := Lib.hid (fun w' (h : Below w.heap.size w w') => cCheck_any v1 v2 cs ks w' (hv1.keep h) (hv2.keep h) hl1 hl2)
  have HDA := Lib.hid (fun w' (h : Below w.heap.size w w') (ho : CcOk cs ks) => dialAt_any v1 v2 cs ks id t w' (hv1.keep h) (hv2.keep h) ho)
  have HOK := Lib.hid (ccE_ok (cs := cs) (ks := ks))
  have HTT := Lib.hid (fun (ho : CcOk cs ks) z h => dlL_ok ho (id := id) (z := z) h)
  have HCI := Lib.hid (fun (ho : CcOk cs ks) z h => ciF_ok ho (id := id) (z := z) h)
  have HLE := Lib.hid (fun (ho : CcOk cs ks) z => dlL_len ho z)
  have HV : Hid (zrV cs ks id t = _) := Lib.hid (zrV.eq_1 cs ks id t)
  have HE : Hid (zrE cs ks id t = _) := Lib.hid (zrE.eq_1 cs ks id t)
  have HZL : Hid (∀ z, ciF cs id = some z → zrL cs ks id t = spLo z.dr (dlL z ks) t ∧ zrH cs ks id t = spHi z.dr (dlL z ks) t) := Lib.hid (fun z hz => by unfold zrL zrH; rw [hz]; exact ⟨rfl, rfl⟩)
  obtain ⟨V, hV⟩ : ∃ V, zrV cs ks id t = V := ⟨_, rfl⟩
  obtain ⟨E, hE⟩ : ∃ E, zrE cs ks id t = E := ⟨_, rfl⟩
  obtain ⟨F, hF⟩ : ∃ F, ccE cs ks = F := ⟨_, rfl⟩
  rw [hV, hE] at HV
  rw [hV]
  rw [hE, hF] at HE
  rw [hF] at HCH HOK
  clear hV hE hF hv1 hv2
  have HA := Lib.hid (fun W' => two_cells w #[v1, v2] #[.int .i64 0, .int .i64 0] 46 49 (W := W'))
  have HB0 := Lib.hid (Below.refl ((w.alloc (.cells #[v1, v2] 46)).alloc (.cells #[.int .i64 0, .int .i64 0] 49)).heap.size ((w.alloc (.cells #[v1, v2] 46)).alloc (.cells #[.int .i64 0, .int .i64 0] 49)))
  obtain ⟨Z, hZ⟩ : ∃ Z, (w.alloc (.cells #[v1, v2] 46)).alloc (.cells #[.int .i64 0, .int .i64 0] 49) = Z := ⟨_, rfl⟩
  rw [hZ] at HA HB0
  have HZ := Lib.hid hZ
  have HRD : Hid (∀ W', Below Z.heap.size Z W' → Below w.heap.size w W') := Lib.hid (fun W' h => (HA.out W' h).2.2.2)
  clear hZ
  go_enter Try.func25, Try.ntmps25
  go_wp2_with fail
  rw [HZ.out]
  refine (HCH.out Z (HRD.out Z HB0.out)).mono ?_
  rintro e w1 ⟨rfl, hb1⟩
  have HB1 := Lib.hid hb1
  clear hb1
  have q0 := cellH (HA.out _ HB1.out).1 0
  have q1 := cellH (HA.out _ HB1.out).1 1
  have r0 := cellH (HA.out _ HB1.out).2.1 0
  have r1 := cellH (HA.out _ HB1.out).2.1 1
  have rf := freeH (HA.out _ HB1.out).2.1
  simp only [List.getElem?_toArray, List.getElem?_cons_zero, List.getElem?_cons_succ] at q0 q1 r0 r1
  by_cases h0 : F = 0
  case neg =>
    have HN : Hid (E = F) := Lib.hid (by rw [HE.out, if_neg h0])
    have h0' : (F != 0) = true := by simpa using h0
    have HNE := Lib.hid h0
    clear h0
    go_wp2_with fail
    obtain ⟨z1, z2⟩ := set2 (HA.out _ HB1.out).2.1 (HRD.out _ HB1.out) (by omega) (.int .i64 0) (.int .i64 0)
    refine bodyPost_ret (res_ct Try.results25 _ _ (w.heap.size + 1) 49 #[.int .i64 0, .int .i64 0] (0, 0) _ rfl z1 Try.underlying49 rfl info_sp2) rfl ?_
    exact ⟨by rw [HV.out, HN.out, if_neg HNE.out]; rfl, z2⟩
  subst h0
  have HO := Lib.hid (HOK.out rfl)
  have HE2 : Hid (E = dtE (ciF cs id) ks t) := Lib.hid (by rw [HE.out, if_pos rfl])
  go_wp2_with fail
  refine (HDA.out w1 (HRD.out w1 HB1.out) HO.out).mono ?_
  rintro e w2 ⟨hb2, hne, hz⟩
  have HB2 := Lib.hid (HB1.out.trans (hb2.mono HB1.out.size))
  clear hb2 q0 q1 r0 r1 rf
  rw [← HE2.out] at hne hz
  by_cases h0 : E = 0
  case neg =>
    have he := hne h0
    subst he
    have h0' : (E != 0) = true := by simpa using h0
    have HNE := Lib.hid h0
    clear h0 hne hz
    have HB3 : Hid (Below Z.heap.size Z (w2.alloc (.cells #[.int .i64 0, .int .i64 0, .int .i64 0, .int .i64 0, .int .i64 0, .int .i64 0, .int .i64 0, .int .i64 0, .slice none 0 0] 112))) := Lib.hid (HB2.out.alloc HB2.out.size _)
    have q0 := cellH (HA.out _ HB3.out).1 0
    have q1 := cellH (HA.out _ HB3.out).1 1
    have r0 := cellH (HA.out _ HB3.out).2.1 0
    have r1 := cellH (HA.out _ HB3.out).2.1 1
    have rf := freeH (HA.out _ HB3.out).2.1
    simp only [List.getElem?_toArray, List.getElem?_cons_zero, List.getElem?_cons_succ] at q0 q1 r0 r1
    unfold dl0
    go_wp2_with fail
    obtain ⟨z1, z2⟩ := set2 (HA.out _ HB3.out).2.1 (HRD.out _ HB3.out) (by omega) (.int .i64 0) (.int .i64 0)
    refine bodyPost_ret (res_ct Try.results25 _ _ (w.heap.size + 1) 49 #[.int .i64 0, .int .i64 0] (0, 0) _ rfl z1 Try.underlying49 rfl info_sp2) rfl ?_
    exact ⟨by rw [HV.out, if_neg HNE.out]; rfl, z2⟩
  obtain ⟨z, v, hzv, rfl, hr, hO⟩ := hz h0
  have hzo := Ci.ok_iff.1 (HCI.out HO.out z hzv)
  have HSP : Hid (∀ w', Below w2.heap.size w2 w' → Calls Try.prog 59 #[dlV z v, .int .i64 t] w' fun e w'' => e = .returned (.agg #[.int .i64 (spLo z.dr (dlL z ks) t), .int .i64 (spHi z.dr (dlL z ks) t)]) ∧ Below w'.heap.size w' w'') := Lib.hid (by
    have hdt := HE2.out
    rw [hzv, h0] at hdt
    unfold dtE at hdt
    have hct : ciB t z.f z.t = true := by
      cases hc : ciB t z.f z.t
      · rw [hc] at hdt; simp at hdt
      · rfl
    rw [ci_iff] at hct
    exact fun w' hw => span_any z v (dlL z ks) t w' (hr.keep hw) (by have := HLE.out HO.out z; omega) (by omega) (by omega) (HTT.out HO.out z hzv))
  have HZS := Lib.hid (HZL.out z hzv)
  have HE0 := Lib.hid h0
  obtain ⟨L, hL⟩ : ∃ L, dlL z ks = L := ⟨_, rfl⟩
  rw [hL] at HSP HZS
  obtain ⟨g, n, cap, C, rfl, hC⟩ := hO
  obtain ⟨zi, zx, zy, zf, zt, zl, zh, dr⟩ := z
  unfold dlV at HSP ⊢
  simp only at HSP HZS ⊢
  subst h0
  have hB3 : Below w2.heap.size w2 (w2.alloc (.cells #[.int .i64 zi, .int .i64 zx, .int .i64 zy, .int .i64 zf, .int .i64 zt, .int .i64 zl, .int .i64 zh, .int .i64 dr, .slice (some ⟨g, 0, none⟩) n cap] 112)) := (Below.refl _ w2).alloc (Nat.le_refl _) _
  have HB3 : Hid (Below Z.heap.size Z (w2.alloc (.cells #[.int .i64 zi, .int .i64 zx, .int .i64 zy, .int .i64 zf, .int .i64 zt, .int .i64 zl, .int .i64 zh, .int .i64 dr, .slice (some ⟨g, 0, none⟩) n cap] 112))) := Lib.hid (HB2.out.alloc HB2.out.size _)
  have HW : Hid ((w2.alloc (.cells #[.int .i64 zi, .int .i64 zx, .int .i64 zy, .int .i64 zf, .int .i64 zt, .int .i64 zl, .int .i64 zh, .int .i64 dr, .slice (some ⟨g, 0, none⟩) n cap] 112)).heap[w2.heap.size]? = some (.cells #[.int .i64 zi, .int .i64 zx, .int .i64 zy, .int .i64 zf, .int .i64 zt, .int .i64 zl, .int .i64 zh, .int .i64 dr, .slice (some ⟨g, 0, none⟩) n cap] 112 (0, 0))) := Lib.hid (heap_alloc_new _ _)
  have q0 := cellH (HA.out _ HB3.out).1 0
  have q1 := cellH (HA.out _ HB3.out).1 1
  have r0 := cellH (HA.out _ HB3.out).2.1 0
  have r1 := cellH (HA.out _ HB3.out).2.1 1
  have rf := freeH (HA.out _ HB3.out).2.1
  simp only [List.getElem?_toArray, List.getElem?_cons_zero, List.getElem?_cons_succ] at q0 q1 r0 r1
  have d0 := cellH HW.out 0
  have d1 := cellH HW.out 1
  have d2 := cellH HW.out 2
  have d3 := cellH HW.out 3
  have d4 := cellH HW.out 4
  have d5 := cellH HW.out 5
  have d6 := cellH HW.out 6
  have d7 := cellH HW.out 7
  have d8 := cellH HW.out 8
  simp only [List.getElem?_toArray, List.getElem?_cons_zero, List.getElem?_cons_succ] at d0 d1 d2 d3 d4 d5 d6 d7 d8
  have HSP3 := Lib.hid (HSP.out _ hB3)
  obtain ⟨Y, hY⟩ : ∃ Y, w2.alloc (.cells #[.int .i64 zi, .int .i64 zx, .int .i64 zy, .int .i64 zf, .int .i64 zt, .int .i64 zl, .int .i64 zh, .int .i64 dr, .slice (some ⟨g, 0, none⟩) n cap] 112) = Y := ⟨_, rfl⟩
  rw [hY] at HB3 HW HSP3 q0 q1 r0 r1 rf d0 d1 d2 d3 d4 d5 d6 d7 d8
  obtain ⟨db, hdb⟩ : ∃ n, w2.heap.size = n := ⟨_, rfl⟩
  rw [hdb] at HW d0 d1 d2 d3 d4 d5 d6 d7 d8
  clear hne hz hzv hr hC hzo hL hB3 HSP
  go_wp2_with fail
  clear hY
  refine HSP3.out.mono ?_
  rintro e w4 ⟨rfl, hb4⟩
  have HB4 := Lib.hid (HB3.out.trans (hb4.mono HB3.out.size))
  clear hb4 q0 q1 r0 r1 rf d0 d1 d2 d3 d4 d5 d6 d7 d8 HSP3
  have q0 := cellH (HA.out _ HB4.out).1 0
  have q1 := cellH (HA.out _ HB4.out).1 1
  have r0 := cellH (HA.out _ HB4.out).2.1 0
  have r1 := cellH (HA.out _ HB4.out).2.1 1
  have rf := freeH (HA.out _ HB4.out).2.1
  simp only [List.getElem?_toArray, List.getElem?_cons_zero, List.getElem?_cons_succ] at q0 q1 r0 r1
  go_wp2_with fail
  obtain ⟨z1, z2⟩ := set2 (HA.out _ HB4.out).2.1 (HRD.out _ HB4.out) (by omega) (.int .i64 (spLo dr L t)) (.int .i64 (spHi dr L t))
  refine bodyPost_ret (res_ct Try.results25 _ _ (w.heap.size + 1) 49 #[.int .i64 (spLo dr L t), .int .i64 (spHi dr L t)] (0, 0) _ rfl z1 Try.underlying49 rfl info_sp2) rfl ?_
  have hv := HV.out
  rw [if_pos trivial, HZS.out.1, HZS.out.2] at hv
  exact ⟨by rw [hv]; rfl, z2⟩
end Go.Proofs.Ytpaihnjgpookjaa
