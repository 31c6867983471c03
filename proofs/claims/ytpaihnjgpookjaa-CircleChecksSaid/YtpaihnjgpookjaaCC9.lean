/- Package circle: dialFor. -/
import Derived.Test.YtpaihnjgpookjaaCC8
set_option linter.unusedVariables false
set_option linter.unusedSimpArgs false
namespace Go.Proofs.Ytpaihnjgpookjaa
open Go Go.RowKit

/-- The code that dialFor answers. -/
def dfE (cs : List Ci) (ks : List Ck) (rc rt rs rl : Int) : Int := if ccE cs ks = 0 then (if (ciB rs 0 3599 && ciB rl 1 100) = true then dtE (ciF cs rc) ks rt else 1) else ccE cs ks
/-- The answer of dialFor. -/
def DfOut (cs : List Ci) (ks : List Ck) (rc rt rs rl : Int) (w : World) (e : Ending) (w' : World) : Prop :=
  Below w.heap.size w w' ∧ (dfE cs ks rc rt rs rl ≠ 0 → e = .returned (.tuple #[dl0, .int .i64 (dfE cs ks rc rt rs rl)])) ∧ (dfE cs ks rc rt rs rl = 0 → ∃ z v, ciF cs rc = some z ∧ e = .returned (.tuple #[dlV z v, .int .i64 0]) ∧ ThRow w' v (dlL z ks) ∧ ThOwn w' v)
set_option maxRecDepth 100000 in
set_option maxHeartbeats 8000000 in
theorem dialFor_any (v1 v2 : Value) (cs : List Ci) (ks : List Ck) (rc rt rs rl : Int) (w : World) (hv1 : CiRow w v1 cs) (hv2 : CkRow w v2 ks) (hl1 : cs.length ≤ 9223372036854775807) (hl2 : ks.length ≤ 9223372036854775807) :
    Calls Try.prog 88 #[.agg #[v1, v2], .agg #[.int .i64 rc, .int .i64 rt, .int .i64 rs, .int .i64 rl]] w fun e w' => DfOut cs ks rc rt rs rl w e w' := by
  have HCH := Lib.hid (fun w' (h : Below w.heap.size w w') => cCheck_any v1 v2 cs ks w' (hv1.keep h) (hv2.keep h) hl1 hl2)
  have HDA := Lib.hid (fun w' (h : Below w.heap.size w w') (ho : CcOk cs ks) => dialAt_any v1 v2 cs ks rc rt w' (hv1.keep h) (hv2.keep h) ho)
  have HOK := Lib.hid (ccE_ok (cs := cs) (ks := ks))
  have H2 := Lib.hid (fun w' => validDivision_any rs w')
  have H3 := Lib.hid (fun w' => validSlack_any rl w')
  have HE : Hid (dfE cs ks rc rt rs rl = _) := Lib.hid (dfE.eq_1 cs ks rc rt rs rl)
  obtain ⟨E, hE⟩ : ∃ E, dfE cs ks rc rt rs rl = E := ⟨_, rfl⟩
  obtain ⟨F, hF⟩ : ∃ F, ccE cs ks = F := ⟨_, rfl⟩
  obtain ⟨c1, hc1⟩ : ∃ n, ciB rs 0 3599 = n := ⟨_, rfl⟩
  obtain ⟨c2, hc2⟩ : ∃ n, ciB rl 1 100 = n := ⟨_, rfl⟩
  unfold DfOut
  rw [hE, hF, hc1, hc2] at HE
  rw [hE]
  rw [hF] at HCH HOK
  rw [hc1] at H2
  rw [hc2] at H3
  clear hE hF hv1 hv2 hc1 hc2
  have HA := Lib.hid (fun W' => cells3 w #[v1, v2] #[.int .i64 rc, .int .i64 rt, .int .i64 rs, .int .i64 rl] #[.int .i64 0, .int .i64 0, .int .i64 0, .int .i64 0, .int .i64 0, .int .i64 0, .int .i64 0, .int .i64 0, .slice none 0 0] 46 77 112 (W := W'))
  have HB0 := Lib.hid (Below.refl (((w.alloc (.cells #[v1, v2] 46)).alloc (.cells #[.int .i64 rc, .int .i64 rt, .int .i64 rs, .int .i64 rl] 77)).alloc (.cells #[.int .i64 0, .int .i64 0, .int .i64 0, .int .i64 0, .int .i64 0, .int .i64 0, .int .i64 0, .int .i64 0, .slice none 0 0] 112)).heap.size (((w.alloc (.cells #[v1, v2] 46)).alloc (.cells #[.int .i64 rc, .int .i64 rt, .int .i64 rs, .int .i64 rl] 77)).alloc (.cells #[.int .i64 0, .int .i64 0, .int .i64 0, .int .i64 0, .int .i64 0, .int .i64 0, .int .i64 0, .int .i64 0, .slice none 0 0] 112)))
  obtain ⟨Z, hZ⟩ : ∃ Z, ((w.alloc (.cells #[v1, v2] 46)).alloc (.cells #[.int .i64 rc, .int .i64 rt, .int .i64 rs, .int .i64 rl] 77)).alloc (.cells #[.int .i64 0, .int .i64 0, .int .i64 0, .int .i64 0, .int .i64 0, .int .i64 0, .int .i64 0, .int .i64 0, .slice none 0 0] 112) = Z := ⟨_, rfl⟩
  rw [hZ] at HA HB0
  have HZ := Lib.hid hZ
  clear hZ
  go_enter Try.func88, Try.ntmps88
  go_wp2_with fail
  rw [HZ.out]
  refine (HCH.out Z (HA.out Z HB0.out).2.2.2.2).mono ?_
  rintro e w1 ⟨rfl, hb1⟩
  have HB1 := Lib.hid hb1
  clear hb1
  obtain ⟨x1, x2, x3, x4, x5⟩ := HA.out _ HB1.out
  have HX3 := Lib.hid x3
  have HX5 := Lib.hid x5
  have q0 := cellH x1 0
  have q1 := cellH x1 1
  have p0 := cellH x2 0
  have p1 := cellH x2 1
  have p2 := cellH x2 2
  have p3 := cellH x2 3
  have r0 := cellH x3 0
  have r1 := cellH x3 1
  have r2 := cellH x3 2
  have r3 := cellH x3 3
  have r4 := cellH x3 4
  have r5 := cellH x3 5
  have r6 := cellH x3 6
  have r7 := cellH x3 7
  have r8 := cellH x3 8
  have rf := freeH x3
  simp only [List.getElem?_toArray, List.getElem?_cons_zero, List.getElem?_cons_succ] at q0 q1 p0 p1 p2 p3 r0 r1 r2 r3 r4 r5 r6 r7 r8
  clear x1 x2 x3 x4 x5
  by_cases h0 : F = 0
  case neg =>
    have HN : Hid (E = F) := Lib.hid (by rw [HE.out, if_neg h0])
    have h0' : (F != 0) = true := by simpa using h0
    have HNE := Lib.hid h0
    clear h0
    go_wp2_with fail
    obtain ⟨z1, z2⟩ := set9 HX3.out HX5.out (by omega) (.int .i64 0) (.int .i64 0) (.int .i64 0) (.int .i64 0) (.int .i64 0) (.int .i64 0) (.int .i64 0) (.int .i64 0) (.slice none 0 0)
    refine bodyPost_ret (res_ct Try.results88 _ _ (w.heap.size + 1 + 1) 112 #[.int .i64 0, .int .i64 0, .int .i64 0, .int .i64 0, .int .i64 0, .int .i64 0, .int .i64 0, .int .i64 0, .slice none 0 0] (0, 0) _ rfl z1 Try.underlying112 rfl info_di9) rfl ?_
    exact ⟨z2, fun _ => by rw [HN.out]; rfl, fun h => absurd (HN.out.symm.trans h) HNE.out⟩
  subst h0
  have HO := Lib.hid (HOK.out rfl)
  cases c1
  case false =>
    have HN : Hid (E = 1) := Lib.hid (by rw [HE.out]; rfl)
    go_wp2_with fail
    refine (H2.out _).mono ?_
    rintro e w2 ⟨rfl, rfl⟩
    go_wp2_with fail
    obtain ⟨z1, z2⟩ := set9 HX3.out HX5.out (by omega) (.int .i64 0) (.int .i64 0) (.int .i64 0) (.int .i64 0) (.int .i64 0) (.int .i64 0) (.int .i64 0) (.int .i64 0) (.slice none 0 0)
    refine bodyPost_ret (res_ct Try.results88 _ _ (w.heap.size + 1 + 1) 112 #[.int .i64 0, .int .i64 0, .int .i64 0, .int .i64 0, .int .i64 0, .int .i64 0, .int .i64 0, .int .i64 0, .slice none 0 0] (0, 0) _ rfl z1 Try.underlying112 rfl info_di9) rfl ?_
    exact ⟨z2, fun _ => by rw [HN.out]; rfl, fun h => absurd h (by rw [HN.out]; decide)⟩
  cases c2
  case false =>
    have HN : Hid (E = 1) := Lib.hid (by rw [HE.out]; rfl)
    go_wp2_with fail
    refine (H2.out _).mono ?_
    rintro e w2 ⟨rfl, rfl⟩
    go_wp2_with fail
    refine (H3.out _).mono ?_
    rintro e w3 ⟨rfl, rfl⟩
    go_wp2_with fail
    obtain ⟨z1, z2⟩ := set9 HX3.out HX5.out (by omega) (.int .i64 0) (.int .i64 0) (.int .i64 0) (.int .i64 0) (.int .i64 0) (.int .i64 0) (.int .i64 0) (.int .i64 0) (.slice none 0 0)
    refine bodyPost_ret (res_ct Try.results88 _ _ (w.heap.size + 1 + 1) 112 #[.int .i64 0, .int .i64 0, .int .i64 0, .int .i64 0, .int .i64 0, .int .i64 0, .int .i64 0, .int .i64 0, .slice none 0 0] (0, 0) _ rfl z1 Try.underlying112 rfl info_di9) rfl ?_
    exact ⟨z2, fun _ => by rw [HN.out]; rfl, fun h => absurd h (by rw [HN.out]; decide)⟩
  have HE2 : Hid (E = dtE (ciF cs rc) ks rt) := Lib.hid (by rw [HE.out]; rfl)
  go_wp2_with fail
  refine (H2.out _).mono ?_
  rintro e w2 ⟨rfl, rfl⟩
  go_wp2_with fail
  refine (H3.out _).mono ?_
  rintro e w3 ⟨rfl, rfl⟩
  go_wp2_with fail
  refine (HDA.out _ (HA.out _ HB1.out).2.2.2.2 HO.out).mono ?_
  rintro e w4 ⟨hb4, hne, hz⟩
  have HB4 := Lib.hid (HB1.out.trans (hb4.mono HB1.out.size))
  clear hb4
  clear q0 q1 p0 p1 p2 p3 r0 r1 r2 r3 r4 r5 r6 r7 r8 rf HX3 HX5
  rw [← HE2.out] at hne hz
  obtain ⟨x1, x2, x3, x4, x5⟩ := HA.out _ HB4.out
  have HX3 := Lib.hid x3
  have HX5 := Lib.hid x5
  have q0 := cellH x1 0
  have q1 := cellH x1 1
  have p0 := cellH x2 0
  have p1 := cellH x2 1
  have p2 := cellH x2 2
  have p3 := cellH x2 3
  have r0 := cellH x3 0
  have r1 := cellH x3 1
  have r2 := cellH x3 2
  have r3 := cellH x3 3
  have r4 := cellH x3 4
  have r5 := cellH x3 5
  have r6 := cellH x3 6
  have r7 := cellH x3 7
  have r8 := cellH x3 8
  have rf := freeH x3
  simp only [List.getElem?_toArray, List.getElem?_cons_zero, List.getElem?_cons_succ] at q0 q1 p0 p1 p2 p3 r0 r1 r2 r3 r4 r5 r6 r7 r8
  clear x1 x2 x3 x4 x5
  by_cases h0 : E = 0
  case neg =>
    have he := hne h0
    subst he
    have HNE := Lib.hid h0
    clear h0 hne hz
    unfold dl0
    go_wp2_with fail
    obtain ⟨z1, z2⟩ := set9 HX3.out HX5.out (by omega) (.int .i64 0) (.int .i64 0) (.int .i64 0) (.int .i64 0) (.int .i64 0) (.int .i64 0) (.int .i64 0) (.int .i64 0) (.slice none 0 0)
    refine bodyPost_ret (res_ct Try.results88 _ _ (w.heap.size + 1 + 1) 112 #[.int .i64 0, .int .i64 0, .int .i64 0, .int .i64 0, .int .i64 0, .int .i64 0, .int .i64 0, .int .i64 0, .slice none 0 0] (0, 0) _ rfl z1 Try.underlying112 rfl info_di9) rfl ?_
    exact ⟨z2, fun _ => rfl, fun h => absurd h HNE.out⟩
  obtain ⟨z, v, hzv, rfl, hr, hO⟩ := hz h0
  have HZV := Lib.hid hzv
  have HR := Lib.hid hr
  have HTO := Lib.hid hO
  have HE0 := Lib.hid (show E = 0 from h0)
  obtain ⟨g, n, cap, C, rfl, hC⟩ := hO
  obtain ⟨zi, zx, zy, zf, zt, zl, zh, dr⟩ := z
  unfold dlV
  simp only
  clear hne hz hzv hr hC h0
  go_wp2_with fail
  obtain ⟨z1, z2⟩ := set9 HX3.out HX5.out (by omega) (.int .i64 zi) (.int .i64 zx) (.int .i64 zy) (.int .i64 zf) (.int .i64 zt) (.int .i64 zl) (.int .i64 zh) (.int .i64 dr) (.slice (some ⟨g, 0, none⟩) n cap)
  refine bodyPost_ret (res_ct Try.results88 _ _ (w.heap.size + 1 + 1) 112 #[.int .i64 zi, .int .i64 zx, .int .i64 zy, .int .i64 zf, .int .i64 zt, .int .i64 zl, .int .i64 zh, .int .i64 dr, .slice (some ⟨g, 0, none⟩) n cap] (0, 0) _ rfl z1 Try.underlying112 rfl info_di9) rfl ?_
  obtain ⟨g', n', cap', C', hv', hC'⟩ := HTO.out
  cases hv'
  have hne : g ≠ w.heap.size + 1 + 1 := by
    rintro rfl
    have h1 := hC'.symm.trans HX3.out
    simp at h1
  have hs := same9 (W := w4) hne (.int .i64 zi) (.int .i64 zx) (.int .i64 zy) (.int .i64 zf) (.int .i64 zt) (.int .i64 zl) (.int .i64 zh) (.int .i64 dr) (.slice (some ⟨g, 0, none⟩) n cap)
  exact ⟨z2, fun h => absurd HE0.out h, fun _ => ⟨_, _, HZV.out, rfl, HR.out.same hs, ⟨g, n, cap, C', rfl, hs.trans hC'⟩⟩⟩
end Go.Proofs.Ytpaihnjgpookjaa
