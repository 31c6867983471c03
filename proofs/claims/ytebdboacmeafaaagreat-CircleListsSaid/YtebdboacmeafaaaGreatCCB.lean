/- Merged: CC4, CC5, CC6, CC7, CC8. -/
import Derived.Test.YtebdboacmeafaaaGreatCCA
import Derived.Test.YtebdboacmeafaaaGreatCB8
/- Package circle: Zero. -/
set_option linter.unusedVariables false
set_option linter.unusedSimpArgs false
namespace Go.Proofs.YtebdboacmeafaaaGreat
open Go Go.RowKit

/-- The code that the zero of a circle at a minute answers. -/
def zrE (cs : List Ci) (ks : List Ck) (id t : Int) : Int := if ccE cs ks = 0 then dtE (ciF cs id) ks t else ccE cs ks
def zrL (cs : List Ci) (ks : List Ck) (id t : Int) : Int := spLo ((ciF cs id).getD .nil).dr (dlL ((ciF cs id).getD .nil) ks) t
def zrH (cs : List Ci) (ks : List Ck) (id t : Int) : Int := spHi ((ciF cs id).getD .nil).dr (dlL ((ciF cs id).getD .nil) ks) t
def zrV (cs : List Ci) (ks : List Ck) (id t : Int) : Value :=
  if zrE cs ks id t = 0 then .tuple #[.agg #[.int .i64 (zrL cs ks id t), .int .i64 (zrH cs ks id t)], .int .i64 0] else .tuple #[.agg #[.int .i64 0, .int .i64 0], .int .i64 (zrE cs ks id t)]
set_option maxRecDepth 100000 in
set_option maxHeartbeats 8000000 in
theorem Zero_any (v1 v2 : Value) (cs : List Ci) (ks : List Ck) (id t : Int) (w : World) (hv1 : CiRow w v1 cs) (hv2 : CkRow w v2 ks) (hl1 : cs.length ≤ 9223372036854775807) (hl2 : ks.length ≤ 9223372036854775807) :
    Calls Tryz.prog 31 #[.agg #[v1, v2], .int .i64 id, .int .i64 t] w fun e w' => e = .returned (zrV cs ks id t) ∧ Below w.heap.size w w' := by
  have HCH := Lib.hid (fun w' (h : Below w.heap.size w w') => cCheck_any v1 v2 cs ks w' (hv1.keep h) (hv2.keep h) hl1 hl2)
  have HDA := Lib.hid (fun w' (h : Below w.heap.size w w') (ho : CcOk cs ks) => dialAt_any v1 v2 cs ks id t w' (hv1.keep h) (hv2.keep h) ho)
  have HOK := Lib.hid (ccE_ok (cs := cs) (ks := ks))
  have HTT := Lib.hid (fun (ho : CcOk cs ks) z h => dlL_ok ho (id := id) (z := z) h)
  have HCI := Lib.hid (fun (ho : CcOk cs ks) z h => ciF_ok ho (id := id) (z := z) h)
  have HLE := Lib.hid (fun (ho : CcOk cs ks) z => dlL_len ho z)
  have HV : Hid (zrV cs ks id t = _) := Lib.hid (zrV.eq_1 cs ks id t)
  have HE : Hid (zrE cs ks id t = _) := Lib.hid (zrE.eq_1 cs ks id t)
  have HZL : Hid (∀ z, ciF cs id = some z → zrL cs ks id t = spLo z.dr (dlL z ks) t ∧ zrH cs ks id t = spHi z.dr (dlL z ks) t) := Lib.hid (fun z hz => by unfold zrL zrH; rw [hz]; exact ⟨rfl, rfl⟩)
  obtain ⟨V, hV⟩ : ∃ V, zrV cs ks id t = V := ⟨_, rfl⟩
  obtain ⟨E, hE⟩ : ∃ E, zrE cs ks id t = E := ⟨_, rfl⟩
  obtain ⟨F, hF⟩ : ∃ F, ccE cs ks = F := ⟨_, rfl⟩
  rw [hV, hE] at HV
  rw [hV]
  rw [hE, hF] at HE
  rw [hF] at HCH HOK
  clear hV hE hF hv1 hv2
  have HA := Lib.hid (fun W' => two_cells w #[v1, v2] #[.int .i64 0, .int .i64 0] 25 36 (W := W'))
  have HB0 := Lib.hid (Below.refl ((w.alloc (.cells #[v1, v2] 25)).alloc (.cells #[.int .i64 0, .int .i64 0] 36)).heap.size ((w.alloc (.cells #[v1, v2] 25)).alloc (.cells #[.int .i64 0, .int .i64 0] 36)))
  obtain ⟨Z, hZ⟩ : ∃ Z, (w.alloc (.cells #[v1, v2] 25)).alloc (.cells #[.int .i64 0, .int .i64 0] 36) = Z := ⟨_, rfl⟩
  rw [hZ] at HA HB0
  have HZ := Lib.hid hZ
  have HRD : Hid (∀ W', Below Z.heap.size Z W' → Below w.heap.size w W') := Lib.hid (fun W' h => (HA.out W' h).2.2.2)
  clear hZ
  go_enter Tryz.func31, Tryz.ntmps31
  go_wp2_with fail
  rw [HZ.out]
  refine (HCH.out Z (HRD.out Z HB0.out)).mono ?_
  rintro e w1 ⟨rfl, hb1⟩
  have HB1 := Lib.hid hb1
  clear hb1
  have q0 := cellH (HA.out _ HB1.out).1 0
  have q1 := cellH (HA.out _ HB1.out).1 1
  have r0 := cellH (HA.out _ HB1.out).2.1 0
  have r1 := cellH (HA.out _ HB1.out).2.1 1
  have rf := freeH (HA.out _ HB1.out).2.1
  simp only [List.getElem?_toArray, List.getElem?_cons_zero, List.getElem?_cons_succ] at q0 q1 r0 r1
  by_cases h0 : F = 0
  case neg =>
    have HN : Hid (E = F) := Lib.hid (by rw [HE.out, if_neg h0])
    have h0' : (F != 0) = true := by simpa using h0
    have HNE := Lib.hid h0
    clear h0
    go_wp2_with fail
    obtain ⟨z1, z2⟩ := set2 (HA.out _ HB1.out).2.1 (HRD.out _ HB1.out) (by omega) (.int .i64 0) (.int .i64 0)
    refine bodyPost_ret (res_ct Tryz.results31 _ _ (w.heap.size + 1) 36 #[.int .i64 0, .int .i64 0] (0, 0) _ rfl z1 Tryz.underlying36 rfl info_sp2) rfl ?_
    exact ⟨by rw [HV.out, HN.out, if_neg HNE.out]; rfl, z2⟩
  subst h0
  have HO := Lib.hid (HOK.out rfl)
  have HE2 : Hid (E = dtE (ciF cs id) ks t) := Lib.hid (by rw [HE.out, if_pos rfl])
  go_wp2_with fail
  refine (HDA.out w1 (HRD.out w1 HB1.out) HO.out).mono ?_
  rintro e w2 ⟨hb2, hne, hz⟩
  have HB2 := Lib.hid (HB1.out.trans (hb2.mono HB1.out.size))
  clear hb2 q0 q1 r0 r1 rf
  rw [← HE2.out] at hne hz
  by_cases h0 : E = 0
  case neg =>
    have he := hne h0
    subst he
    have h0' : (E != 0) = true := by simpa using h0
    have HNE := Lib.hid h0
    clear h0 hne hz
    have HB3 : Hid (Below Z.heap.size Z (w2.alloc (.cells #[.int .i64 0, .int .i64 0, .int .i64 0, .int .i64 0, .int .i64 0, .int .i64 0, .int .i64 0, .int .i64 0, .slice none 0 0] 119))) := Lib.hid (HB2.out.alloc HB2.out.size _)
    have q0 := cellH (HA.out _ HB3.out).1 0
    have q1 := cellH (HA.out _ HB3.out).1 1
    have r0 := cellH (HA.out _ HB3.out).2.1 0
    have r1 := cellH (HA.out _ HB3.out).2.1 1
    have rf := freeH (HA.out _ HB3.out).2.1
    simp only [List.getElem?_toArray, List.getElem?_cons_zero, List.getElem?_cons_succ] at q0 q1 r0 r1
    unfold dl0
    go_wp2_with fail
    obtain ⟨z1, z2⟩ := set2 (HA.out _ HB3.out).2.1 (HRD.out _ HB3.out) (by omega) (.int .i64 0) (.int .i64 0)
    refine bodyPost_ret (res_ct Tryz.results31 _ _ (w.heap.size + 1) 36 #[.int .i64 0, .int .i64 0] (0, 0) _ rfl z1 Tryz.underlying36 rfl info_sp2) rfl ?_
    exact ⟨by rw [HV.out, if_neg HNE.out]; rfl, z2⟩
  obtain ⟨z, v, hzv, rfl, hr, hO⟩ := hz h0
  have hzo := Ci.ok_iff.1 (HCI.out HO.out z hzv)
  have HSP : Hid (∀ w', Below w2.heap.size w2 w' → Calls Tryz.prog 70 #[dlV z v, .int .i64 t] w' fun e w'' => e = .returned (.agg #[.int .i64 (spLo z.dr (dlL z ks) t), .int .i64 (spHi z.dr (dlL z ks) t)]) ∧ Below w'.heap.size w' w'') := Lib.hid (by
    have hdt := HE2.out
    rw [hzv, h0] at hdt
    unfold dtE at hdt
    have hct : ciB t z.f z.t = true := by
      cases hc : ciB t z.f z.t
      · rw [hc] at hdt; simp at hdt
      · rfl
    rw [ci_iff] at hct
    exact fun w' hw => span_any z v (dlL z ks) t w' (hr.keep hw) (by have := HLE.out HO.out z; omega) (by omega) (by omega) (HTT.out HO.out z hzv))
  have HZS := Lib.hid (HZL.out z hzv)
  have HE0 := Lib.hid h0
  obtain ⟨L, hL⟩ : ∃ L, dlL z ks = L := ⟨_, rfl⟩
  rw [hL] at HSP HZS
  obtain ⟨g, n, cap, C, rfl, hC⟩ := hO
  obtain ⟨zi, zx, zy, zf, zt, zl, zh, dr⟩ := z
  unfold dlV at HSP ⊢
  simp only at HSP HZS ⊢
  subst h0
  have hB3 : Below w2.heap.size w2 (w2.alloc (.cells #[.int .i64 zi, .int .i64 zx, .int .i64 zy, .int .i64 zf, .int .i64 zt, .int .i64 zl, .int .i64 zh, .int .i64 dr, .slice (some ⟨g, 0, none⟩) n cap] 119)) := (Below.refl _ w2).alloc (Nat.le_refl _) _
  have HB3 : Hid (Below Z.heap.size Z (w2.alloc (.cells #[.int .i64 zi, .int .i64 zx, .int .i64 zy, .int .i64 zf, .int .i64 zt, .int .i64 zl, .int .i64 zh, .int .i64 dr, .slice (some ⟨g, 0, none⟩) n cap] 119))) := Lib.hid (HB2.out.alloc HB2.out.size _)
  have HW : Hid ((w2.alloc (.cells #[.int .i64 zi, .int .i64 zx, .int .i64 zy, .int .i64 zf, .int .i64 zt, .int .i64 zl, .int .i64 zh, .int .i64 dr, .slice (some ⟨g, 0, none⟩) n cap] 119)).heap[w2.heap.size]? = some (.cells #[.int .i64 zi, .int .i64 zx, .int .i64 zy, .int .i64 zf, .int .i64 zt, .int .i64 zl, .int .i64 zh, .int .i64 dr, .slice (some ⟨g, 0, none⟩) n cap] 119 (0, 0))) := Lib.hid (heap_alloc_new _ _)
  have q0 := cellH (HA.out _ HB3.out).1 0
  have q1 := cellH (HA.out _ HB3.out).1 1
  have r0 := cellH (HA.out _ HB3.out).2.1 0
  have r1 := cellH (HA.out _ HB3.out).2.1 1
  have rf := freeH (HA.out _ HB3.out).2.1
  simp only [List.getElem?_toArray, List.getElem?_cons_zero, List.getElem?_cons_succ] at q0 q1 r0 r1
  have d0 := cellH HW.out 0
  have d1 := cellH HW.out 1
  have d2 := cellH HW.out 2
  have d3 := cellH HW.out 3
  have d4 := cellH HW.out 4
  have d5 := cellH HW.out 5
  have d6 := cellH HW.out 6
  have d7 := cellH HW.out 7
  have d8 := cellH HW.out 8
  simp only [List.getElem?_toArray, List.getElem?_cons_zero, List.getElem?_cons_succ] at d0 d1 d2 d3 d4 d5 d6 d7 d8
  have HSP3 := Lib.hid (HSP.out _ hB3)
  obtain ⟨Y, hY⟩ : ∃ Y, w2.alloc (.cells #[.int .i64 zi, .int .i64 zx, .int .i64 zy, .int .i64 zf, .int .i64 zt, .int .i64 zl, .int .i64 zh, .int .i64 dr, .slice (some ⟨g, 0, none⟩) n cap] 119) = Y := ⟨_, rfl⟩
  rw [hY] at HB3 HW HSP3 q0 q1 r0 r1 rf d0 d1 d2 d3 d4 d5 d6 d7 d8
  obtain ⟨db, hdb⟩ : ∃ n, w2.heap.size = n := ⟨_, rfl⟩
  rw [hdb] at HW d0 d1 d2 d3 d4 d5 d6 d7 d8
  clear hne hz hzv hr hC hzo hL hB3 HSP
  go_wp2_with fail
  clear hY
  refine HSP3.out.mono ?_
  rintro e w4 ⟨rfl, hb4⟩
  have HB4 := Lib.hid (HB3.out.trans (hb4.mono HB3.out.size))
  clear hb4 q0 q1 r0 r1 rf d0 d1 d2 d3 d4 d5 d6 d7 d8 HSP3
  have q0 := cellH (HA.out _ HB4.out).1 0
  have q1 := cellH (HA.out _ HB4.out).1 1
  have r0 := cellH (HA.out _ HB4.out).2.1 0
  have r1 := cellH (HA.out _ HB4.out).2.1 1
  have rf := freeH (HA.out _ HB4.out).2.1
  simp only [List.getElem?_toArray, List.getElem?_cons_zero, List.getElem?_cons_succ] at q0 q1 r0 r1
  go_wp2_with fail
  obtain ⟨z1, z2⟩ := set2 (HA.out _ HB4.out).2.1 (HRD.out _ HB4.out) (by omega) (.int .i64 (spLo dr L t)) (.int .i64 (spHi dr L t))
  refine bodyPost_ret (res_ct Tryz.results31 _ _ (w.heap.size + 1) 36 #[.int .i64 (spLo dr L t), .int .i64 (spHi dr L t)] (0, 0) _ rfl z1 Tryz.underlying36 rfl info_sp2) rfl ?_
  have hv := HV.out
  rw [if_pos trivial, HZS.out.1, HZS.out.2] at hv
  exact ⟨by rw [hv]; rfl, z2⟩
end Go.Proofs.YtebdboacmeafaaaGreat
/- Package circle: on which thing a bound rests. -/
set_option linter.unusedVariables false
set_option linter.unusedSimpArgs false
namespace Go.Proofs.YtebdboacmeafaaaGreat
open Go Go.RowKit

/-- The number of the first thing that alone bounds the zero so. -/
def rsI (A : Th → Int) (bound last : Int) : List Th → Int
  | [] => 0
  | h :: l => if (bound != last && A h == bound) = true then h.id else rsI A bound last l
theorem rsI_drop {A : Th → Int} {bound last : Int} {l : List Th} {k : Nat} (hk : k < l.length) : rsI A bound last (l.drop k) = if (bound != last && A (l.getD k .nil) == bound) = true then (l.getD k .nil).id else rsI A bound last (l.drop (k + 1)) := by
  rw [List.drop_eq_getElem_cons hk, List.getD_eq_getElem?_getD, List.getElem?_eq_getElem hk]
  rfl
set_option maxRecDepth 100000 in
set_option maxHeartbeats 8000000 in
theorem rest_any (z : Ci) (v : Value) (l : List Th) (bound last : Int) (f : Nat) (p q : Value) (A : Th → Int) (w : World) (hv : ThRow w v l) (hl : l.length ≤ 100) (hf : ∀ args w', (callFunc f args).run Tryz.prog w' = .ok (.enter f args) w')
    (hcall : ∀ w' h, Below w.heap.size w w' → h ∈ l → Calls Tryz.prog f #[h.val, p, q] w' fun e w'' => e = .returned (.int .i64 (A h)) ∧ Below w'.heap.size w' w'') :
    Calls Tryz.prog 88 #[dlV z v, .int .i64 bound, .int .i64 last, .func (.func f) #[] #[p, q]] w fun e w' => e = .returned (.int .i64 (rsI A bound last l)) ∧ Below w.heap.size w w' := by
  have HV := Lib.hid hv
  obtain ⟨va, vc, rfl, hc⟩ := hv.form
  have HC := Lib.hid hc
  have HLEN := Lib.hid hl
  have HCALL := Lib.hid hcall
  have HF := Lib.hid hf
  obtain ⟨R, hR⟩ : ∃ R, rsI A bound last l = R := ⟨_, rfl⟩
  rw [hR]
  have HR := Lib.hid hR
  clear hc hv hl hcall hR hf
  obtain ⟨zi, zx, zy, zf, zt, zl, zh, dr⟩ := z
  unfold dlV
  simp only
  have HA := Lib.hid (fun W' => cells1 w #[.int .i64 zi, .int .i64 zx, .int .i64 zy, .int .i64 zf, .int .i64 zt, .int .i64 zl, .int .i64 zh, .int .i64 dr, .slice va l.length vc] 119 (W := W'))
  have HB0 := Lib.hid (Below.refl (w.alloc (.cells #[.int .i64 zi, .int .i64 zx, .int .i64 zy, .int .i64 zf, .int .i64 zt, .int .i64 zl, .int .i64 zh, .int .i64 dr, .slice va l.length vc] 119)).heap.size (w.alloc (.cells #[.int .i64 zi, .int .i64 zx, .int .i64 zy, .int .i64 zf, .int .i64 zt, .int .i64 zl, .int .i64 zh, .int .i64 dr, .slice va l.length vc] 119)))
  obtain ⟨Z, hZ⟩ : ∃ Z, w.alloc (.cells #[.int .i64 zi, .int .i64 zx, .int .i64 zy, .int .i64 zf, .int .i64 zt, .int .i64 zl, .int .i64 zh, .int .i64 dr, .slice va l.length vc] 119) = Z := ⟨_, rfl⟩
  rw [hZ] at HA HB0
  have HZ := Lib.hid hZ
  have d8 := cellH (HA.out Z HB0.out).1 8
  simp only [List.getElem?_toArray, List.getElem?_cons_zero, List.getElem?_cons_succ] at d8
  rw [← hZ] at d8
  clear hZ
  go_enter Tryz.func88, Tryz.ntmps88
  go_wp2_with fail
  rw [HZ.out]
  clear d8
  go_loopw [14] (fun i wr => ∃ (k : Nat), k ≤ l.length ∧ i = .int .i64 k ∧ Hid (Below Z.heap.size Z wr) ∧ Hid (rsI A bound last (l.drop k) = R)) (fun i _ => l.length - (intOf i).toNat)
  case atStart => exact ⟨0, Nat.zero_le _, rfl, HB0, HR⟩
  case round =>
    obtain ⟨k, hk, rfl, hB, hN⟩ := hrel
    have HZB : Hid (Below w.heap.size w wr) := Lib.hid (HA.out wr hB.out).2.2
    by_cases hkl : k < l.length
    · obtain ⟨b, off, rfl, hb, hat⟩ := HC.out k hkl
      obtain ⟨e0, e1, e2, e3, e4, e5, e6, e7, e8, e9⟩ := hat.keep HZB.out hb
      have hki : (k : Int) < l.length := by omega
      have hk0 : (0 : Int) ≤ k := by omega
      have ek : IntKind.i64.wrap ((k : Int) + 1) = (k : Int) + 1 := IntWalk.i64_in _ (by have := HLEN.out; omega)
      have HD := Lib.hid (rsI_drop (A := A) (bound := bound) (last := last) hkl)
      have HCL : Hid (∀ w', Below w.heap.size w w' → Calls Tryz.prog f #[(l.getD k .nil).val, p, q] w' fun e w'' => e = .returned (.int .i64 (A (l.getD k .nil))) ∧ Below w'.heap.size w' w'') := Lib.hid (fun w' h => HCALL.out w' _ h (by rw [List.getD_eq_getElem?_getD, List.getElem?_eq_getElem hkl]; exact List.getElem_mem _))
      have HKL := Lib.hid hkl
      rw [hN.out] at HD
      obtain ⟨X, hX⟩ : ∃ X, l.getD k .nil = X := ⟨_, rfl⟩
      rw [hX] at e0 e1 e2 e3 e4 e5 e6 e7 e8 e9 HD HCL
      obtain ⟨av, hav⟩ : ∃ n, A X = n := ⟨_, rfl⟩
      rw [hav] at HD HCL
      obtain ⟨g0, g1, g2, g3, g4, g5, g6, g7, g8, g9⟩ := X
      simp only at e0 e1 e2 e3 e4 e5 e6 e7 e8 e9 HD
      clear hX hav hat hb hN HCALL
      have hQ : Below wr.heap.size wr (wr.alloc (.cells #[.int .i64 g0, .int .i64 g1, .int .i64 g2, .int .i64 g3, .int .i64 g4, .int .i64 g5, .int .i64 g6, .int .i64 g7, .int .i64 g8, .bool g9] 128)) := (Below.refl _ wr).alloc (Nat.le_refl _) _
      have HBA := Lib.hid (hB.out.alloc hB.out.size (.cells #[.int .i64 g0, .int .i64 g1, .int .i64 g2, .int .i64 g3, .int .i64 g4, .int .i64 g5, .int .i64 g6, .int .i64 g7, .int .i64 g8, .bool g9] 128))
      have HZA : Hid (Below w.heap.size w (wr.alloc (.cells #[.int .i64 g0, .int .i64 g1, .int .i64 g2, .int .i64 g3, .int .i64 g4, .int .i64 g5, .int .i64 g6, .int .i64 g7, .int .i64 g8, .bool g9] 128))) := Lib.hid (HZB.out.trans (hQ.mono HZB.out.size))
      have HBX : Hid ((wr.alloc (.cells #[.int .i64 g0, .int .i64 g1, .int .i64 g2, .int .i64 g3, .int .i64 g4, .int .i64 g5, .int .i64 g6, .int .i64 g7, .int .i64 g8, .bool g9] 128)).heap[wr.heap.size]? = some (.cells #[.int .i64 g0, .int .i64 g1, .int .i64 g2, .int .i64 g3, .int .i64 g4, .int .i64 g5, .int .i64 g6, .int .i64 g7, .int .i64 g8, .bool g9] 128 (0, 0))) := Lib.hid (heap_alloc_new _ _)
      have HSZ : Hid (wr.heap.size < (wr.alloc (.cells #[.int .i64 g0, .int .i64 g1, .int .i64 g2, .int .i64 g3, .int .i64 g4, .int .i64 g5, .int .i64 g6, .int .i64 g7, .int .i64 g8, .bool g9] 128)).heap.size) := Lib.hid (by simp)
      have HCL2 := Lib.hid (HCL.out _ HZA.out)
      unfold Th.val at HCL2
      simp only at HCL2
      have b0 := cellH HBX.out 0
      have b1 := cellH HBX.out 1
      have b2 := cellH HBX.out 2
      have b3 := cellH HBX.out 3
      have b4 := cellH HBX.out 4
      have b5 := cellH HBX.out 5
      have b6 := cellH HBX.out 6
      have b7 := cellH HBX.out 7
      have b8 := cellH HBX.out 8
      have b9 := cellH HBX.out 9
      simp only [List.getElem?_toArray, List.getElem?_cons_zero, List.getElem?_cons_succ] at b0 b1 b2 b3 b4 b5 b6 b7 b8 b9
      obtain ⟨bb, hbb⟩ : ∃ n, wr.heap.size = n := ⟨_, rfl⟩
      rw [hbb] at HBX HSZ b0 b1 b2 b3 b4 b5 b6 b7 b8 b9
      obtain ⟨w2, hw2⟩ : ∃ X, wr.alloc (.cells #[.int .i64 g0, .int .i64 g1, .int .i64 g2, .int .i64 g3, .int .i64 g4, .int .i64 g5, .int .i64 g6, .int .i64 g7, .int .i64 g8, .bool g9] 128) = X := ⟨_, rfl⟩
      rw [hw2] at HBA HZA HBX HSZ HCL2 b0 b1 b2 b3 b4 b5 b6 b7 b8 b9
      clear hQ HCL hB HZB
      cases hbn : (bound != last)
      · have HN2 : Hid (rsI A bound last (l.drop (k + 1)) = R) := Lib.hid (by
          have h := HD.out
          rw [hbn] at h
          rw [h]; rfl)
        go_wp2_with fail
        go_roundw
        case rel => exact ⟨k + 1, HKL.out, by go_num, HBA, HN2⟩
        case measure => have := HKL.out; simp [intOf]; omega
      · have hen := HF.out #[.agg #[.int .i64 g0, .int .i64 g1, .int .i64 g2, .int .i64 g3, .int .i64 g4, .int .i64 g5, .int .i64 g6, .int .i64 g7, .int .i64 g8, .bool g9], p, q] w2
        go_wp2_with fail
        refine HCL2.out.mono ?_
        rintro e w3 ⟨rfl, hb3⟩
        have HB3 := Lib.hid (HBA.out.trans (hb3.mono HBA.out.size))
        have HZ3 := Lib.hid (HZA.out.trans (hb3.mono HZA.out.size))
        have x0 := cellH ((hb3.block _ HSZ.out).trans HBX.out) 0
        simp only [List.getElem?_toArray, List.getElem?_cons_zero, List.getElem?_cons_succ] at x0
        clear hb3 b0 b1 b2 b3 b4 b5 b6 b7 b8 b9 hw2
        cases hE : (av == bound)
        · have HN2 : Hid (rsI A bound last (l.drop (k + 1)) = R) := Lib.hid (by
            have h := HD.out
            rw [hbn, hE] at h
            rw [h]; rfl)
          go_wp2_with fail
          go_roundw
          case rel => exact ⟨k + 1, HKL.out, by go_num, HB3, HN2⟩
          case measure => have := HKL.out; simp [intOf]; omega
        · have HN2 : Hid (R = g0) := Lib.hid (by
            have h := HD.out
            rw [hbn, hE] at h
            rw [h]; rfl)
          go_wp2_with fail
          go_ret
          exact ⟨by rw [HN2.out]; rfl, HZ3.out⟩
    · obtain rfl : k = l.length := by omega
      have HN2 : Hid (R = 0) := Lib.hid (by
        have h := hN.out
        rw [List.drop_length] at h
        rw [← h]; rfl)
      go_wp2_with fail
      go_ret
      exact ⟨by rw [HN2.out]; rfl, HZB.out⟩
end Go.Proofs.YtebdboacmeafaaaGreat
/- Package circle: Rests. -/
set_option linter.unusedVariables false
set_option linter.unusedSimpArgs false
namespace Go.Proofs.YtebdboacmeafaaaGreat
open Go Go.RowKit

set_option maxRecDepth 100000 in
set_option maxHeartbeats 4000000 in
theorem rests1_any (z : Ci) (v : Value) (h : Th) (t : Int) (dp tp : Nat) (w : World) (hd : 0 ≤ z.dr ∧ z.dr ≤ 60) (ht : 0 ≤ t ∧ t ≤ 1048576) (hh : h.ok) (hdp : w.heap[dp]? = some (.cells #[.int .i64 z.id, .int .i64 z.x, .int .i64 z.y, .int .i64 z.f, .int .i64 z.t, .int .i64 z.lo, .int .i64 z.hi, .int .i64 z.dr, v] 119 (0, 0))) (htp : w.heap[tp]? = some (.cells #[.int .i64 t] 3 (0, 0))) :
    Calls Tryz.prog 89 #[h.val, .pointer (some ⟨dp, 0, none⟩), .pointer (some ⟨tp, 0, none⟩)] w fun e w' => e = .returned (.int .i64 (lowI z.dr h t)) ∧ Below w.heap.size w w' := by
  have HQ := Lib.hid (fun w' => dlow_any z v h t w' hd hh.1 ht hh.2.1)
  have HD := Lib.hid hdp
  have HT := Lib.hid htp
  obtain ⟨R, hR⟩ : ∃ R, lowI z.dr h t = R := ⟨_, rfl⟩
  rw [hR] at HQ ⊢
  clear hR hh hdp htp
  obtain ⟨zi, zx, zy, zf, zt, zl, zh, dr⟩ := z
  obtain ⟨g0, g1, g2, g3, g4, g5, g6, g7, g8, g9⟩ := h
  unfold dlV Th.val at HQ
  unfold Th.val
  simp only at HQ HD ⊢
  have HB : Hid (Below w.heap.size w (w.alloc (.cells #[.int .i64 g0, .int .i64 g1, .int .i64 g2, .int .i64 g3, .int .i64 g4, .int .i64 g5, .int .i64 g6, .int .i64 g7, .int .i64 g8, .bool g9] 128))) := Lib.hid ((Below.refl _ w).alloc (Nat.le_refl _) _)
  have HN : Hid ((w.alloc (.cells #[.int .i64 g0, .int .i64 g1, .int .i64 g2, .int .i64 g3, .int .i64 g4, .int .i64 g5, .int .i64 g6, .int .i64 g7, .int .i64 g8, .bool g9] 128)).heap[w.heap.size]? = some (.cells #[.int .i64 g0, .int .i64 g1, .int .i64 g2, .int .i64 g3, .int .i64 g4, .int .i64 g5, .int .i64 g6, .int .i64 g7, .int .i64 g8, .bool g9] 128 (0, 0))) := Lib.hid (heap_alloc_new _ _)
  have HD2 := (HB.out.block _ (Array.getElem?_eq_some_iff.1 HD.out).1).trans HD.out
  have HT2 := (HB.out.block _ (Array.getElem?_eq_some_iff.1 HT.out).1).trans HT.out
  have d0 := cellH HD2 0
  have d1 := cellH HD2 1
  have d2 := cellH HD2 2
  have d3 := cellH HD2 3
  have d4 := cellH HD2 4
  have d5 := cellH HD2 5
  have d6 := cellH HD2 6
  have d7 := cellH HD2 7
  have d8 := cellH HD2 8
  have b0 := cellH HN.out 0
  have b1 := cellH HN.out 1
  have b2 := cellH HN.out 2
  have b3 := cellH HN.out 3
  have b4 := cellH HN.out 4
  have b5 := cellH HN.out 5
  have b6 := cellH HN.out 6
  have b7 := cellH HN.out 7
  have b8 := cellH HN.out 8
  have b9 := cellH HN.out 9
  have t0 := cellH HT2 0
  simp only [List.getElem?_toArray, List.getElem?_cons_zero, List.getElem?_cons_succ] at t0 d0 d1 d2 d3 d4 d5 d6 d7 d8 b0 b1 b2 b3 b4 b5 b6 b7 b8 b9
  clear HD2 HT2
  go_enter Tryz.func89, Tryz.ntmps89
  go_wp2_with fail
  refine (HQ.out _).mono ?_
  rintro e w2 ⟨rfl, hb2⟩
  have HB2 := Lib.hid (HB.out.trans (hb2.mono HB.out.size))
  clear hb2
  go_wp2_with fail
  go_ret
  exact ⟨rfl, HB2.out⟩
set_option maxRecDepth 100000 in
set_option maxHeartbeats 4000000 in
theorem rests2_any (z : Ci) (v : Value) (h : Th) (t : Int) (dp tp : Nat) (w : World) (hd : 0 ≤ z.dr ∧ z.dr ≤ 60) (ht : 0 ≤ t ∧ t ≤ 1048576) (hh : h.ok) (hdp : w.heap[dp]? = some (.cells #[.int .i64 z.id, .int .i64 z.x, .int .i64 z.y, .int .i64 z.f, .int .i64 z.t, .int .i64 z.lo, .int .i64 z.hi, .int .i64 z.dr, v] 119 (0, 0))) (htp : w.heap[tp]? = some (.cells #[.int .i64 t] 3 (0, 0))) :
    Calls Tryz.prog 91 #[h.val, .pointer (some ⟨dp, 0, none⟩), .pointer (some ⟨tp, 0, none⟩)] w fun e w' => e = .returned (.int .i64 (highI z.dr h t)) ∧ Below w.heap.size w w' := by
  have HQ := Lib.hid (fun w' => dhigh_any z v h t w' hd hh.1 ht hh.2.2)
  have HD := Lib.hid hdp
  have HT := Lib.hid htp
  obtain ⟨R, hR⟩ : ∃ R, highI z.dr h t = R := ⟨_, rfl⟩
  rw [hR] at HQ ⊢
  clear hR hh hdp htp
  obtain ⟨zi, zx, zy, zf, zt, zl, zh, dr⟩ := z
  obtain ⟨g0, g1, g2, g3, g4, g5, g6, g7, g8, g9⟩ := h
  unfold dlV Th.val at HQ
  unfold Th.val
  simp only at HQ HD ⊢
  have HB : Hid (Below w.heap.size w (w.alloc (.cells #[.int .i64 g0, .int .i64 g1, .int .i64 g2, .int .i64 g3, .int .i64 g4, .int .i64 g5, .int .i64 g6, .int .i64 g7, .int .i64 g8, .bool g9] 128))) := Lib.hid ((Below.refl _ w).alloc (Nat.le_refl _) _)
  have HN : Hid ((w.alloc (.cells #[.int .i64 g0, .int .i64 g1, .int .i64 g2, .int .i64 g3, .int .i64 g4, .int .i64 g5, .int .i64 g6, .int .i64 g7, .int .i64 g8, .bool g9] 128)).heap[w.heap.size]? = some (.cells #[.int .i64 g0, .int .i64 g1, .int .i64 g2, .int .i64 g3, .int .i64 g4, .int .i64 g5, .int .i64 g6, .int .i64 g7, .int .i64 g8, .bool g9] 128 (0, 0))) := Lib.hid (heap_alloc_new _ _)
  have HD2 := (HB.out.block _ (Array.getElem?_eq_some_iff.1 HD.out).1).trans HD.out
  have HT2 := (HB.out.block _ (Array.getElem?_eq_some_iff.1 HT.out).1).trans HT.out
  have d0 := cellH HD2 0
  have d1 := cellH HD2 1
  have d2 := cellH HD2 2
  have d3 := cellH HD2 3
  have d4 := cellH HD2 4
  have d5 := cellH HD2 5
  have d6 := cellH HD2 6
  have d7 := cellH HD2 7
  have d8 := cellH HD2 8
  have b0 := cellH HN.out 0
  have b1 := cellH HN.out 1
  have b2 := cellH HN.out 2
  have b3 := cellH HN.out 3
  have b4 := cellH HN.out 4
  have b5 := cellH HN.out 5
  have b6 := cellH HN.out 6
  have b7 := cellH HN.out 7
  have b8 := cellH HN.out 8
  have b9 := cellH HN.out 9
  have t0 := cellH HT2 0
  simp only [List.getElem?_toArray, List.getElem?_cons_zero, List.getElem?_cons_succ] at t0 d0 d1 d2 d3 d4 d5 d6 d7 d8 b0 b1 b2 b3 b4 b5 b6 b7 b8 b9
  clear HD2 HT2
  go_enter Tryz.func91, Tryz.ntmps91
  go_wp2_with fail
  refine (HQ.out _).mono ?_
  rintro e w2 ⟨rfl, hb2⟩
  have HB2 := Lib.hid (HB.out.trans (hb2.mono HB.out.size))
  clear hb2
  go_wp2_with fail
  go_ret
  exact ⟨rfl, HB2.out⟩
end Go.Proofs.YtebdboacmeafaaaGreat
/- Package circle: Rests. -/
set_option linter.unusedVariables false
set_option linter.unusedSimpArgs false
namespace Go.Proofs.YtebdboacmeafaaaGreat
open Go Go.RowKit

def rsLo (cs : List Ci) (ks : List Ck) (id t : Int) : Int := rsI (fun h => lowI ((ciF cs id).getD .nil).dr h t) (zrL cs ks id t) (-300) (dlL ((ciF cs id).getD .nil) ks)
def rsHi (cs : List Ci) (ks : List Ck) (id t : Int) : Int := rsI (fun h => highI ((ciF cs id).getD .nil).dr h t) (zrH cs ks id t) 300 (dlL ((ciF cs id).getD .nil) ks)
/-- What Rests answers. -/
def rsV (cs : List Ci) (ks : List Ck) (id t : Int) : Value :=
  if zrE cs ks id t = 0 then .tuple #[.int .i64 (rsLo cs ks id t), .int .i64 (rsHi cs ks id t), .int .i64 0] else .tuple #[.int .i64 0, .int .i64 0, .int .i64 (zrE cs ks id t)]
set_option maxRecDepth 100000 in
set_option maxHeartbeats 8000000 in
theorem Rests_any (v1 v2 : Value) (cs : List Ci) (ks : List Ck) (id t : Int) (w : World) (hv1 : CiRow w v1 cs) (hv2 : CkRow w v2 ks) (hl1 : cs.length ≤ 9223372036854775807) (hl2 : ks.length ≤ 9223372036854775807) :
    Calls Tryz.prog 32 #[.agg #[v1, v2], .int .i64 id, .int .i64 t] w fun e w' => e = .returned (rsV cs ks id t) ∧ Below w.heap.size w w' := by
  have HCH := Lib.hid (fun w' (h : Below w.heap.size w w') => cCheck_any v1 v2 cs ks w' (hv1.keep h) (hv2.keep h) hl1 hl2)
  have HDA := Lib.hid (fun w' (h : Below w.heap.size w w') (ho : CcOk cs ks) => dialAt_any v1 v2 cs ks id t w' (hv1.keep h) (hv2.keep h) ho)
  have HOK := Lib.hid (ccE_ok (cs := cs) (ks := ks))
  have HTT := Lib.hid (fun (ho : CcOk cs ks) z h => dlL_ok ho (id := id) (z := z) h)
  have HCI := Lib.hid (fun (ho : CcOk cs ks) z h => ciF_ok ho (id := id) (z := z) h)
  have HLE := Lib.hid (fun (ho : CcOk cs ks) z => dlL_len ho z)
  have HV : Hid (rsV cs ks id t = _) := Lib.hid (rsV.eq_1 cs ks id t)
  have HE : Hid (zrE cs ks id t = _) := Lib.hid (zrE.eq_1 cs ks id t)
  have HZL : Hid (∀ z, ciF cs id = some z → rsLo cs ks id t = rsI (fun h => lowI z.dr h t) (spLo z.dr (dlL z ks) t) (-300) (dlL z ks) ∧ rsHi cs ks id t = rsI (fun h => highI z.dr h t) (spHi z.dr (dlL z ks) t) 300 (dlL z ks)) := Lib.hid (fun z hz => by unfold rsLo rsHi zrL zrH; rw [hz]; exact ⟨rfl, rfl⟩)
  obtain ⟨V, hV⟩ : ∃ V, rsV cs ks id t = V := ⟨_, rfl⟩
  obtain ⟨E, hE⟩ : ∃ E, zrE cs ks id t = E := ⟨_, rfl⟩
  obtain ⟨F, hF⟩ : ∃ F, ccE cs ks = F := ⟨_, rfl⟩
  rw [hV, hE] at HV
  rw [hV]
  rw [hE, hF] at HE
  rw [hF] at HCH HOK
  clear hV hE hF hv1 hv2
  go_enter Tryz.func32, Tryz.ntmps32
  go_wp2_with fail
  have HA := Lib.hid (fun W' => two_cells w #[v1, v2] #[.int .i64 t] 25 3 (W := W'))
  have HB0 := Lib.hid (Below.refl ((w.alloc (.cells #[v1, v2] 25)).alloc (.cells #[.int .i64 t] 3)).heap.size ((w.alloc (.cells #[v1, v2] 25)).alloc (.cells #[.int .i64 t] 3)))
  obtain ⟨Z, hZ⟩ : ∃ Z, (w.alloc (.cells #[v1, v2] 25)).alloc (.cells #[.int .i64 t] 3) = Z := ⟨_, rfl⟩
  rw [hZ] at HA HB0 ⊢
  have HRD : Hid (∀ W', Below Z.heap.size Z W' → Below w.heap.size w W') := Lib.hid (fun W' h => (HA.out W' h).2.2.2)
  clear hZ
  refine (HCH.out Z (HRD.out Z HB0.out)).mono ?_
  rintro e w1 ⟨rfl, hb1⟩
  have HB1 := Lib.hid hb1
  clear hb1
  have q0 := cellH (HA.out _ HB1.out).1 0
  have q1 := cellH (HA.out _ HB1.out).1 1
  have r0 := cellH (HA.out _ HB1.out).2.1 0
  have rf := freeH (HA.out _ HB1.out).2.1
  simp only [List.getElem?_toArray, List.getElem?_cons_zero, List.getElem?_cons_succ] at q0 q1 r0
  by_cases h0 : F = 0
  case neg =>
    have HN : Hid (E = F) := Lib.hid (by rw [HE.out, if_neg h0])
    have h0' : (F != 0) = true := by simpa using h0
    have HNE := Lib.hid h0
    clear h0
    go_wp2_with fail
    go_ret3
    exact ⟨by rw [HV.out, HN.out, if_neg HNE.out]; rfl, HRD.out _ HB1.out⟩
  subst h0
  have HO := Lib.hid (HOK.out rfl)
  have HE2 : Hid (E = dtE (ciF cs id) ks t) := Lib.hid (by rw [HE.out, if_pos rfl])
  go_wp2_with fail
  refine (HDA.out w1 (HRD.out w1 HB1.out) HO.out).mono ?_
  rintro e w2 ⟨hb2, hne, hz⟩
  have HB2 := Lib.hid (HB1.out.trans (hb2.mono HB1.out.size))
  clear hb2 q0 q1 r0 rf
  rw [← HE2.out] at hne hz
  by_cases h0 : E = 0
  case neg =>
    have he := hne h0
    subst he
    have h0' : (E != 0) = true := by simpa using h0
    have HNE := Lib.hid h0
    clear h0 hne hz
    have HB3 : Hid (Below Z.heap.size Z (w2.alloc (.cells #[.int .i64 0, .int .i64 0, .int .i64 0, .int .i64 0, .int .i64 0, .int .i64 0, .int .i64 0, .int .i64 0, .slice none 0 0] 119))) := Lib.hid (HB2.out.alloc HB2.out.size _)
    have q0 := cellH (HA.out _ HB3.out).1 0
    have q1 := cellH (HA.out _ HB3.out).1 1
    have r0 := cellH (HA.out _ HB3.out).2.1 0
    have rf := freeH (HA.out _ HB3.out).2.1
    simp only [List.getElem?_toArray, List.getElem?_cons_zero, List.getElem?_cons_succ] at q0 q1 r0
    unfold dl0
    go_wp2_with fail
    go_ret3
    exact ⟨by rw [HV.out, if_neg HNE.out]; rfl, HRD.out _ HB3.out⟩
  obtain ⟨z, v, hzv, rfl, hr, hO⟩ := hz h0
  have hzo := Ci.ok_iff.1 (HCI.out HO.out z hzv)
  have HSP : Hid (∀ w', Below w2.heap.size w2 w' → Calls Tryz.prog 70 #[dlV z v, .int .i64 t] w' fun e w'' => e = .returned (.agg #[.int .i64 (spLo z.dr (dlL z ks) t), .int .i64 (spHi z.dr (dlL z ks) t)]) ∧ Below w'.heap.size w' w'') := Lib.hid (by
    have hdt := HE2.out
    rw [hzv, h0] at hdt
    unfold dtE at hdt
    have hct : ciB t z.f z.t = true := by
      cases hc : ciB t z.f z.t
      · rw [hc] at hdt; simp at hdt
      · rfl
    rw [ci_iff] at hct
    exact fun w' hw => span_any z v (dlL z ks) t w' (hr.keep hw) (by have := HLE.out HO.out z; omega) (by omega) (by omega) (HTT.out HO.out z hzv))
  have HZS := Lib.hid (HZL.out z hzv)
  have HE0 := Lib.hid h0
  have HCT : Hid (0 ≤ t ∧ t ≤ 1048576) := Lib.hid (by
    have hdt := HE2.out
    rw [hzv, h0] at hdt
    unfold dtE at hdt
    have hct : ciB t z.f z.t = true := by
      cases hc : ciB t z.f z.t
      · rw [hc] at hdt; simp at hdt
      · rfl
    rw [ci_iff] at hct
    omega)
  have HDR : Hid (0 ≤ z.dr ∧ z.dr ≤ 60) := Lib.hid (by omega)
  have HTH := Lib.hid (HTT.out HO.out z hzv)
  have HLN : Hid ((dlL z ks).length ≤ 100) := Lib.hid (by have := HLE.out HO.out z; omega)
  obtain ⟨L, hL⟩ : ∃ L, dlL z ks = L := ⟨_, rfl⟩
  rw [hL] at HSP HZS HTH HLN
  have hr2 := hr
  rw [hL] at hr2
  have HR2 := Lib.hid hr2
  clear hr2
  obtain ⟨g, n, cap, C, rfl, hC⟩ := hO
  obtain ⟨lo, hlo⟩ : ∃ x, spLo z.dr L t = x := ⟨_, rfl⟩
  obtain ⟨hi, hhi⟩ : ∃ x, spHi z.dr L t = x := ⟨_, rfl⟩
  rw [hlo, hhi] at HSP HZS
  clear hlo hhi
  obtain ⟨zi, zx, zy, zf, zt, zl, zh, dr⟩ := z
  unfold dlV at HSP ⊢
  simp only at HSP HZS HDR ⊢
  subst h0
  have hB3 : Below w2.heap.size w2 (w2.alloc (.cells #[.int .i64 zi, .int .i64 zx, .int .i64 zy, .int .i64 zf, .int .i64 zt, .int .i64 zl, .int .i64 zh, .int .i64 dr, .slice (some ⟨g, 0, none⟩) n cap] 119)) := (Below.refl _ w2).alloc (Nat.le_refl _) _
  have HB3 : Hid (Below Z.heap.size Z (w2.alloc (.cells #[.int .i64 zi, .int .i64 zx, .int .i64 zy, .int .i64 zf, .int .i64 zt, .int .i64 zl, .int .i64 zh, .int .i64 dr, .slice (some ⟨g, 0, none⟩) n cap] 119))) := Lib.hid (HB2.out.alloc HB2.out.size _)
  have HW : Hid ((w2.alloc (.cells #[.int .i64 zi, .int .i64 zx, .int .i64 zy, .int .i64 zf, .int .i64 zt, .int .i64 zl, .int .i64 zh, .int .i64 dr, .slice (some ⟨g, 0, none⟩) n cap] 119)).heap[w2.heap.size]? = some (.cells #[.int .i64 zi, .int .i64 zx, .int .i64 zy, .int .i64 zf, .int .i64 zt, .int .i64 zl, .int .i64 zh, .int .i64 dr, .slice (some ⟨g, 0, none⟩) n cap] 119 (0, 0))) := Lib.hid (heap_alloc_new _ _)
  have q0 := cellH (HA.out _ HB3.out).1 0
  have q1 := cellH (HA.out _ HB3.out).1 1
  have r0 := cellH (HA.out _ HB3.out).2.1 0
  have rf := freeH (HA.out _ HB3.out).2.1
  simp only [List.getElem?_toArray, List.getElem?_cons_zero, List.getElem?_cons_succ] at q0 q1 r0
  have d0 := cellH HW.out 0
  have d1 := cellH HW.out 1
  have d2 := cellH HW.out 2
  have d3 := cellH HW.out 3
  have d4 := cellH HW.out 4
  have d5 := cellH HW.out 5
  have d6 := cellH HW.out 6
  have d7 := cellH HW.out 7
  have d8 := cellH HW.out 8
  simp only [List.getElem?_toArray, List.getElem?_cons_zero, List.getElem?_cons_succ] at d0 d1 d2 d3 d4 d5 d6 d7 d8
  have HSP3 := Lib.hid (HSP.out _ hB3)
  have HR3 := Lib.hid (HR2.out.keep hB3)
  obtain ⟨Y, hY⟩ : ∃ Y, w2.alloc (.cells #[.int .i64 zi, .int .i64 zx, .int .i64 zy, .int .i64 zf, .int .i64 zt, .int .i64 zl, .int .i64 zh, .int .i64 dr, .slice (some ⟨g, 0, none⟩) n cap] 119) = Y := ⟨_, rfl⟩
  rw [hY] at HB3 HW HSP3 HR3 q0 q1 r0 rf d0 d1 d2 d3 d4 d5 d6 d7 d8
  obtain ⟨db, hdb⟩ : ∃ n, w2.heap.size = n := ⟨_, rfl⟩
  rw [hdb] at HW d0 d1 d2 d3 d4 d5 d6 d7 d8
  clear hne hz hzv hr hC hzo hL hB3 HSP
  go_wp2_with fail
  clear hY
  refine HSP3.out.mono ?_
  rintro e w4 ⟨rfl, hb4⟩
  have HB4 := Lib.hid (HB3.out.trans (hb4.mono HB3.out.size))
  have HR4 := Lib.hid (HR3.out.keep hb4)
  have HW4 := Lib.hid ((hb4.block _ (Array.getElem?_eq_some_iff.1 HW.out).1).trans HW.out)
  clear hb4 q0 q1 r0 rf d0 d1 d2 d3 d4 d5 d6 d7 d8 HSP3
  have hbx : Below w4.heap.size w4 (w4.alloc (.cells #[.int .i64 lo, .int .i64 hi] 36)) := (Below.refl _ w4).alloc (Nat.le_refl _) _
  have HBX1 := Lib.hid (HB4.out.trans (hbx.mono HB4.out.size))
  have HRX1 := Lib.hid (HR4.out.keep hbx)
  have HWX1 := Lib.hid ((hbx.block _ (Array.getElem?_eq_some_iff.1 HW4.out).1).trans HW4.out)
  have HSX1 : Hid ((w4.alloc (.cells #[.int .i64 lo, .int .i64 hi] 36)).heap[w4.heap.size]? = some (.cells #[.int .i64 lo, .int .i64 hi] 36 (0, 0))) := Lib.hid (heap_alloc_new _ _)
  obtain ⟨X1, hX1⟩ : ∃ X, w4.alloc (.cells #[.int .i64 lo, .int .i64 hi] 36) = X := ⟨_, rfl⟩
  obtain ⟨sb, hsb⟩ : ∃ x, w4.heap.size = x := ⟨_, rfl⟩
  rw [hX1] at HBX1 HRX1 HWX1 HSX1
  rw [hsb] at HSX1
  clear hbx HR4 HW4
  have HRC1 : Hid (Calls Tryz.prog 88 #[.agg #[.int .i64 zi, .int .i64 zx, .int .i64 zy, .int .i64 zf, .int .i64 zt, .int .i64 zl, .int .i64 zh, .int .i64 dr, .slice (some ⟨g, 0, none⟩) n cap], .int .i64 lo, .int .i64 (-300), .func (.func 89) #[] #[.pointer (some ⟨db, 0, none⟩), .pointer (some ⟨w.heap.size + 1, 0, none⟩)]] X1 fun e w' => e = .returned (.int .i64 (rsI (fun h => lowI dr h t) lo (-300) L)) ∧ Below X1.heap.size X1 w') := Lib.hid (rest_any ⟨zi, zx, zy, zf, zt, zl, zh, dr⟩ (.slice (some ⟨g, 0, none⟩) n cap) L lo (-300) 89 _ _ (fun h => lowI dr h t) X1 HRX1.out HLN.out (enters_of Tryz.func89 (by kernel_rfl) rfl) (fun w' h hb hm => rests1_any ⟨zi, zx, zy, zf, zt, zl, zh, dr⟩ (.slice (some ⟨g, 0, none⟩) n cap) h t db (w.heap.size + 1) w' HDR.out HCT.out (HTH.out h hm) ((hb.block _ (Array.getElem?_eq_some_iff.1 HWX1.out).1).trans HWX1.out) ((HA.out w' (HBX1.out.trans (hb.mono HBX1.out.size))).2.1)))
  have d0 := cellH HWX1.out 0
  have d1 := cellH HWX1.out 1
  have d2 := cellH HWX1.out 2
  have d3 := cellH HWX1.out 3
  have d4 := cellH HWX1.out 4
  have d5 := cellH HWX1.out 5
  have d6 := cellH HWX1.out 6
  have d7 := cellH HWX1.out 7
  have d8 := cellH HWX1.out 8
  have s0 := cellH HSX1.out 0
  have s1 := cellH HSX1.out 1
  have q0 := cellH (HA.out _ HBX1.out).1 0
  have q1 := cellH (HA.out _ HBX1.out).1 1
  have r0 := cellH (HA.out _ HBX1.out).2.1 0
  simp only [List.getElem?_toArray, List.getElem?_cons_zero, List.getElem?_cons_succ] at d0 d1 d2 d3 d4 d5 d6 d7 d8 s0 s1 q0 q1 r0
  go_wp2_with fail
  clear hX1
  refine HRC1.out.mono ?_
  rintro e w5 ⟨rfl, hb5⟩
  have HBX2 := Lib.hid (HBX1.out.trans (hb5.mono HBX1.out.size))
  have HRX2 := Lib.hid (HRX1.out.keep hb5)
  have HWX2 := Lib.hid ((hb5.block _ (Array.getElem?_eq_some_iff.1 HWX1.out).1).trans HWX1.out)
  have HSX2 := Lib.hid ((hb5.block _ (Array.getElem?_eq_some_iff.1 HSX1.out).1).trans HSX1.out)
  clear hb5 s0 s1 q0 q1 r0 HRC1 d0 d1 d2 d3 d4 d5 d6 d7 d8
  have HRC2 : Hid (Calls Tryz.prog 88 #[.agg #[.int .i64 zi, .int .i64 zx, .int .i64 zy, .int .i64 zf, .int .i64 zt, .int .i64 zl, .int .i64 zh, .int .i64 dr, .slice (some ⟨g, 0, none⟩) n cap], .int .i64 hi, .int .i64 300, .func (.func 91) #[] #[.pointer (some ⟨db, 0, none⟩), .pointer (some ⟨w.heap.size + 1, 0, none⟩)]] w5 fun e w' => e = .returned (.int .i64 (rsI (fun h => highI dr h t) hi (300) L)) ∧ Below w5.heap.size w5 w') := Lib.hid (rest_any ⟨zi, zx, zy, zf, zt, zl, zh, dr⟩ (.slice (some ⟨g, 0, none⟩) n cap) L hi (300) 91 _ _ (fun h => highI dr h t) w5 HRX2.out HLN.out (enters_of Tryz.func91 (by kernel_rfl) rfl) (fun w' h hb hm => rests2_any ⟨zi, zx, zy, zf, zt, zl, zh, dr⟩ (.slice (some ⟨g, 0, none⟩) n cap) h t db (w.heap.size + 1) w' HDR.out HCT.out (HTH.out h hm) ((hb.block _ (Array.getElem?_eq_some_iff.1 HWX2.out).1).trans HWX2.out) ((HA.out w' (HBX2.out.trans (hb.mono HBX2.out.size))).2.1)))
  have d0 := cellH HWX2.out 0
  have d1 := cellH HWX2.out 1
  have d2 := cellH HWX2.out 2
  have d3 := cellH HWX2.out 3
  have d4 := cellH HWX2.out 4
  have d5 := cellH HWX2.out 5
  have d6 := cellH HWX2.out 6
  have d7 := cellH HWX2.out 7
  have d8 := cellH HWX2.out 8
  have s0 := cellH HSX2.out 0
  have s1 := cellH HSX2.out 1
  have q0 := cellH (HA.out _ HBX2.out).1 0
  have q1 := cellH (HA.out _ HBX2.out).1 1
  have r0 := cellH (HA.out _ HBX2.out).2.1 0
  simp only [List.getElem?_toArray, List.getElem?_cons_zero, List.getElem?_cons_succ] at d0 d1 d2 d3 d4 d5 d6 d7 d8 s0 s1 q0 q1 r0
  go_wp2_with fail
  refine HRC2.out.mono ?_
  rintro e w6 ⟨rfl, hb6⟩
  have HB6 := Lib.hid (HBX2.out.trans (hb6.mono HBX2.out.size))
  clear hb6 s0 s1 q0 q1 r0 HRC2 d0 d1 d2 d3 d4 d5 d6 d7 d8
  go_wp2_with fail
  go_ret3
  have hv := HV.out
  rw [if_pos trivial, HZS.out.1, HZS.out.2] at hv
  exact ⟨by rw [hv]; rfl, HRD.out _ HB6.out⟩
end Go.Proofs.YtebdboacmeafaaaGreat
/- Package circle: Shows, opening. -/
set_option linter.unusedVariables false
set_option linter.unusedSimpArgs false
namespace Go.Proofs.YtebdboacmeafaaaGreat
open Go Go.RowKit

def shB (a b c d z s : Int) : Bool := brB a b c d && ciB z (-300) 300 && ciB s 1 100
def shLo (a b c d z s : Int) : Int := if shB a b c d z s = true then brUp a b c d + z - s else 0
def shHi (a b c d z s : Int) : Int := if shB a b c d z s = true then brDn a b c d + z + s else 0
set_option maxRecDepth 100000 in
set_option maxHeartbeats 4000000 in
theorem opening_any (r0 r1 r2 r3 lo hi : Int) (w : World) (h1 : 0 ≤ r3 ∧ r3 ≤ 1000) (h2 : -300 ≤ lo ∧ lo ≤ 300) (h3 : -300 ≤ hi ∧ hi ≤ 300) :
    Calls Tryz.prog 77 #[.agg #[.int .i64 r0, .int .i64 r1, .int .i64 r2, .int .i64 r3], .agg #[.int .i64 lo, .int .i64 hi]] w fun e w' => e = .returned (.int .i64 (2 * r3 + hi - lo)) ∧ Below w.heap.size w w' := by
  have e1 : IntKind.i64.wrap (2 * r3) = 2 * r3 := IntWalk.i64_in _ (by omega)
  have e2 : IntKind.i64.wrap (2 * r3 + hi) = 2 * r3 + hi := IntWalk.i64_in _ (by omega)
  have e3 : IntKind.i64.wrap (2 * r3 + hi - lo) = 2 * r3 + hi - lo := IntWalk.i64_in _ (by omega)
  have HB := Lib.hid (two_cells w #[.int .i64 r0, .int .i64 r1, .int .i64 r2, .int .i64 r3] #[.int .i64 lo, .int .i64 hi] 50 36 (Below.refl _ _)).2.2.2
  clear h1 h2 h3
  go_enter Tryz.func77, Tryz.ntmps77
  go_wp2_with fail
  go_ret
  exact ⟨rfl, HB.out⟩
set_option maxRecDepth 100000 in
set_option maxHeartbeats 4000000 in
theorem Shows_any (a b c d z s : Int) (w : World) :
    Calls Tryz.prog 36 #[.agg #[.int .i64 a, .int .i64 b], .agg #[.int .i64 c, .int .i64 d], .int .i64 z, .int .i64 s] w fun e w' => e = .returned (.tuple #[.agg #[.int .i64 (shLo a b c d z s), .int .i64 (shHi a b c d z s)], .bool (shB a b c d z s)]) ∧ Below w.heap.size w w' := by
  have H1 := Lib.hid (fun w' => bearingOf_any a b c d w')
  have H2 := Lib.hid (fun w' => validZero_any z w')
  have H3 := Lib.hid (fun w' => validSlack_any s w')
  have hbd := br_bd a b c d
  have HL : Hid (shLo a b c d z s = if shB a b c d z s = true then brUp a b c d + z - s else 0) := Lib.hid rfl
  have HH : Hid (shHi a b c d z s = if shB a b c d z s = true then brDn a b c d + z + s else 0) := Lib.hid rfl
  have HB : Hid (shB a b c d z s = (brB a b c d && ciB z (-300) 300 && ciB s 1 100)) := Lib.hid rfl
  have HZR : Hid (ciB z (-300) 300 = true → -300 ≤ z ∧ z ≤ 300) := Lib.hid ci_iff.1
  have HSR : Hid (ciB s 1 100 = true → 1 ≤ s ∧ s ≤ 100) := Lib.hid ci_iff.1
  obtain ⟨dn, hdn⟩ : ∃ n, brDn a b c d = n := ⟨_, rfl⟩
  obtain ⟨up, hup⟩ : ∃ n, brUp a b c d = n := ⟨_, rfl⟩
  obtain ⟨ok, hok⟩ : ∃ n, brB a b c d = n := ⟨_, rfl⟩
  obtain ⟨B, hB⟩ : ∃ n, shB a b c d z s = n := ⟨_, rfl⟩
  obtain ⟨L, hL⟩ : ∃ n, shLo a b c d z s = n := ⟨_, rfl⟩
  obtain ⟨Q, hQ⟩ : ∃ n, shHi a b c d z s = n := ⟨_, rfl⟩
  obtain ⟨c1, hc1⟩ : ∃ n, ciB z (-300) 300 = n := ⟨_, rfl⟩
  obtain ⟨c2, hc2⟩ : ∃ n, ciB s 1 100 = n := ⟨_, rfl⟩
  rw [hdn, hup, hok] at H1
  rw [hdn, hup] at hbd
  rw [hL, hB, hup] at HL
  rw [hQ, hB, hdn] at HH
  rw [hB, hok, hc1, hc2] at HB
  rw [hB, hL, hQ]
  rw [hc1] at H2 HZR
  rw [hc2] at H3 HSR
  clear hdn hup hok hB hL hQ hc1 hc2
  go_enter Tryz.func36, Tryz.ntmps36
  go_wp2_with fail
  have HA := Lib.hid (fun W' => cells3 w #[.int .i64 a, .int .i64 b] #[.int .i64 c, .int .i64 d] #[.int .i64 0, .int .i64 0] 65 65 36 (W := W'))
  have HB0 := Lib.hid (Below.refl (((w.alloc (.cells #[.int .i64 a, .int .i64 b] 65)).alloc (.cells #[.int .i64 c, .int .i64 d] 65)).alloc (.cells #[.int .i64 0, .int .i64 0] 36)).heap.size (((w.alloc (.cells #[.int .i64 a, .int .i64 b] 65)).alloc (.cells #[.int .i64 c, .int .i64 d] 65)).alloc (.cells #[.int .i64 0, .int .i64 0] 36)))
  obtain ⟨Z, hZ⟩ : ∃ Z, ((w.alloc (.cells #[.int .i64 a, .int .i64 b] 65)).alloc (.cells #[.int .i64 c, .int .i64 d] 65)).alloc (.cells #[.int .i64 0, .int .i64 0] 36) = Z := ⟨_, rfl⟩
  rw [hZ] at HA HB0 ⊢
  clear hZ
  refine (H1.out Z).mono ?_
  rintro e w1 ⟨rfl, hb⟩
  have hY := cells1 w1 #[.int .i64 dn, .int .i64 up] 155 (Below.refl _ _)
  have HBY := Lib.hid (HB0.out.trans (hb.trans (hY.2.2.mono hb.size)))
  have HQY := Lib.hid hY.1
  obtain ⟨Y, hYY⟩ : ∃ Y, w1.alloc (.cells #[.int .i64 dn, .int .i64 up] 155) = Y := ⟨_, rfl⟩
  obtain ⟨yb, hyb⟩ : ∃ y, w1.heap.size = y := ⟨_, rfl⟩
  rw [hYY] at HBY HQY
  rw [hyb] at HQY
  obtain ⟨x1, x2, x3, x4, x5⟩ := HA.out Y HBY.out
  have HX3 := Lib.hid x3
  have HX5 := Lib.hid x5
  have p0 := cellH HQY.out 0
  have p1 := cellH HQY.out 1
  have r0 := cellH x3 0
  have r1 := cellH x3 1
  have rf := freeH x3
  simp only [List.getElem?_toArray, List.getElem?_cons_zero, List.getElem?_cons_succ] at p0 p1 r0 r1
  clear hY hb x1 x2 x3 x4 x5
  cases ok
  case false =>
    have HN : Hid (B = false) := Lib.hid HB.out
    go_wp2_with fail
    obtain ⟨z1, z2⟩ := set2 HX3.out HX5.out (by omega) (.int .i64 0) (.int .i64 0)
    refine bodyPost_ret (res_ct Tryz.results36 _ _ (w.heap.size + 1 + 1) 36 #[.int .i64 0, .int .i64 0] (0, 0) _ rfl z1 Tryz.underlying36 rfl info_sp2) rfl ?_
    exact ⟨by rw [HL.out, HH.out, HN.out]; rfl, z2⟩
  cases c1
  case false =>
    have HN : Hid (B = false) := Lib.hid HB.out
    go_wp2_with fail
    refine (H2.out Y).mono ?_
    rintro e w2 ⟨rfl, rfl⟩
    clear hYY
    go_wp2_with fail
    obtain ⟨z1, z2⟩ := set2 HX3.out HX5.out (by omega) (.int .i64 0) (.int .i64 0)
    refine bodyPost_ret (res_ct Tryz.results36 _ _ (w.heap.size + 1 + 1) 36 #[.int .i64 0, .int .i64 0] (0, 0) _ rfl z1 Tryz.underlying36 rfl info_sp2) rfl ?_
    exact ⟨by rw [HL.out, HH.out, HN.out]; rfl, z2⟩
  cases c2
  case false =>
    have HN : Hid (B = false) := Lib.hid HB.out
    go_wp2_with fail
    refine (H2.out Y).mono ?_
    rintro e w2 ⟨rfl, rfl⟩
    clear hYY
    go_wp2_with fail
    refine (H3.out _).mono ?_
    rintro e w3 ⟨rfl, rfl⟩
    go_wp2_with fail
    obtain ⟨z1, z2⟩ := set2 HX3.out HX5.out (by omega) (.int .i64 0) (.int .i64 0)
    refine bodyPost_ret (res_ct Tryz.results36 _ _ (w.heap.size + 1 + 1) 36 #[.int .i64 0, .int .i64 0] (0, 0) _ rfl z1 Tryz.underlying36 rfl info_sp2) rfl ?_
    exact ⟨by rw [HL.out, HH.out, HN.out]; rfl, z2⟩
  case true =>
    have HN : Hid (B = true) := Lib.hid HB.out
    have hz := HZR.out rfl
    have hs := HSR.out rfl
    have e1 : IntKind.i64.wrap (up + z) = up + z := IntWalk.i64_in _ (by omega)
    have e2 : IntKind.i64.wrap (up + z - s) = up + z - s := IntWalk.i64_in _ (by omega)
    have e3 : IntKind.i64.wrap (dn + z) = dn + z := IntWalk.i64_in _ (by omega)
    have e4 : IntKind.i64.wrap (dn + z + s) = dn + z + s := IntWalk.i64_in _ (by omega)
    clear hz hs hbd
    go_wp2_with fail
    refine (H2.out Y).mono ?_
    rintro e w2 ⟨rfl, rfl⟩
    clear hYY
    go_wp2_with fail
    refine (H3.out _).mono ?_
    rintro e w3 ⟨rfl, rfl⟩
    go_wp2_with fail
    obtain ⟨z1, z2⟩ := set2 HX3.out HX5.out (by omega) (.int .i64 (up + z - s)) (.int .i64 (dn + z + s))
    refine bodyPost_ret (res_ct Tryz.results36 _ _ (w.heap.size + 1 + 1) 36 #[.int .i64 (up + z - s), .int .i64 (dn + z + s)] (0, 0) _ rfl z1 Tryz.underlying36 rfl info_sp2) rfl ?_
    exact ⟨by rw [HL.out, HH.out, HN.out]; rfl, z2⟩
end Go.Proofs.YtebdboacmeafaaaGreat
