/- Package circle: Alone. -/
import Derived.Test.YtpaihnjgpookjaaCB3
set_option linter.unusedVariables false
set_option linter.unusedSimpArgs false
namespace Go.Proofs.Ytpaihnjgpookjaa
open Go Go.RowKit

/-- What Alone returns. -/
def alnV (cs : List Ci) (ks : List Ck) (id : Int) : Value :=
  if ccE cs ks = 0 then
    (match ckF ks id with
    | none => .tuple #[.agg #[.int .i64 0, .int .i64 0], .int .i64 5]
    | some k => if alB ((ciF cs k.c).getD .nil).x ((ciF cs k.c).getD .nil).y k = true then .tuple #[.agg #[.int .i64 (alL ((ciF cs k.c).getD .nil).x ((ciF cs k.c).getD .nil).y k), .int .i64 (alH ((ciF cs k.c).getD .nil).x ((ciF cs k.c).getD .nil).y k)], .int .i64 0] else .tuple #[.agg #[.int .i64 0, .int .i64 0], .int .i64 9])
  else .tuple #[.agg #[.int .i64 0, .int .i64 0], .int .i64 (ccE cs ks)]
set_option maxRecDepth 100000 in
set_option maxHeartbeats 4000000 in
theorem Alone_any (v1 v2 : Value) (cs : List Ci) (ks : List Ck) (id : Int) (w : World) (hv1 : CiRow w v1 cs) (hv2 : CkRow w v2 ks) (hl1 : cs.length ≤ 9223372036854775807) (hl2 : ks.length ≤ 9223372036854775807) :
    Calls Try.prog 21 #[.agg #[v1, v2], .int .i64 id] w fun e w' => e = .returned (alnV cs ks id) ∧ Below w.heap.size w w' := by
  have HCH := Lib.hid (fun w' (h : Below w.heap.size w w') => cCheck_any v1 v2 cs ks w' (hv1.keep h) (hv2.keep h) hl1 hl2)
  have HOK := Lib.hid (ccE_ok (cs := cs) (ks := ks))
  have HV : Hid (alnV cs ks id = _) := Lib.hid (alnV.eq_1 cs ks id)
  have HV1 := Lib.hid hv1
  have HV2 := Lib.hid hv2
  obtain ⟨a1, c1, rfl, _⟩ := hv1.form
  obtain ⟨a2, c2, rfl, _⟩ := hv2.form
  obtain ⟨E, hE⟩ : ∃ z, ccE cs ks = z := ⟨_, rfl⟩
  obtain ⟨V, hV⟩ : ∃ z, alnV cs ks id = z := ⟨_, rfl⟩
  rw [hE] at HCH HOK HV
  rw [hV] at HV ⊢
  clear hE hV hv1 hv2
  have HA := Lib.hid (fun W' => two_cells w #[.slice a1 cs.length c1, .slice a2 ks.length c2] #[.int .i64 0, .int .i64 0] 46 49 (W := W'))
  have HB0 := Lib.hid (Below.refl ((w.alloc (.cells #[.slice a1 cs.length c1, .slice a2 ks.length c2] 46)).alloc (.cells #[.int .i64 0, .int .i64 0] 49)).heap.size ((w.alloc (.cells #[.slice a1 cs.length c1, .slice a2 ks.length c2] 46)).alloc (.cells #[.int .i64 0, .int .i64 0] 49)))
  obtain ⟨Z, hZ⟩ : ∃ Z, (w.alloc (.cells #[.slice a1 cs.length c1, .slice a2 ks.length c2] 46)).alloc (.cells #[.int .i64 0, .int .i64 0] 49) = Z := ⟨_, rfl⟩
  rw [hZ] at HA HB0
  have HZ := Lib.hid hZ
  have HRD : Hid (∀ W', Below Z.heap.size Z W' → (W'.cell? ⟨w.heap.size, 0, none⟩ = some (.slice a1 cs.length c1) ∧ W'.cell? ⟨w.heap.size, 1, none⟩ = some (.slice a2 ks.length c2)) ∧ (W'.cell? ⟨w.heap.size + 1, 0, none⟩ = some (.int .i64 0) ∧ W'.cell? ⟨w.heap.size + 1, 1, none⟩ = some (.int .i64 0) ∧ (∀ o, W'.frozen? ⟨w.heap.size + 1, o, none⟩ = false)) ∧ Below w.heap.size w W') := Lib.hid (fun W' h => by
    obtain ⟨z0, z1, _, zb⟩ := HA.out W' h
    exact ⟨⟨cellH z0 0, cellH z0 1⟩, ⟨cellH z1 0, cellH z1 1, freeH z1⟩, zb⟩)
  clear hZ
  go_enter Try.func21, Try.ntmps21
  go_wp2_with fail
  rw [HZ.out]
  refine (HCH.out Z (HRD.out Z HB0.out).2.2).mono ?_
  rintro e w1 ⟨rfl, hb1⟩
  have HB1 := Lib.hid hb1
  obtain ⟨⟨q0, q1⟩, ⟨r0, r1, rf⟩, _⟩ := HRD.out w1 hb1
  clear hb1
  by_cases h0 : E = 0
  case neg =>
    have HN : Hid (V = .tuple #[.agg #[.int .i64 0, .int .i64 0], .int .i64 E]) := Lib.hid (by rw [HV.out, if_neg h0])
    have h0' : (E != 0) = true := by simpa using h0
    clear h0
    go_wp2_with fail
    obtain ⟨_, z0, _, zb⟩ := HA.out w1 HB1.out
    obtain ⟨z1, z2⟩ := set2 z0 zb (by omega) (.int .i64 0) (.int .i64 0)
    refine bodyPost_ret (res_ct Try.results21 _ _ (w.heap.size + 1) 49 #[.int .i64 0, .int .i64 0] (0, 0) _ rfl z1 Try.underlying49 rfl info_sp2) rfl ?_
    exact ⟨by rw [HN.out]; rfl, z2⟩
  subst h0
  have HO := Lib.hid (HOK.out rfl)
  have HCK := Lib.hid (fun w' (h : Below Z.heap.size Z w') => checkOf_any (.slice a2 ks.length c2) ks id w' (HV2.out.keep (HRD.out w' h).2.2) (by have := HO.out.m; omega))
  have HMEM := Lib.hid (fun k => ckF_mem (l := ks) (id := id) (k := k))
  obtain ⟨R, hR⟩ : ∃ z, ckF ks id = z := ⟨_, rfl⟩
  rw [hR] at HCK HV HMEM
  clear hR
  cases R with
  | none =>
    simp only [Option.getD_none, Ck.nil, Option.isSome_none] at HCK
    go_wp2_with fail
    refine (HCK.out w1 HB1.out).mono ?_
    rintro e w2 ⟨rfl, hb2⟩
    have HB2 := Lib.hid (HB1.out.trans (hb2.mono HB1.out.size))
    clear hb2 q0 q1 r0 r1 rf
    have HN : Hid (V = .tuple #[.agg #[.int .i64 0, .int .i64 0], .int .i64 5]) := Lib.hid (by rw [HV.out]; simp)
    have HY := Lib.hid (HB2.out.alloc HB2.out.size (.cells #[.int .i64 0, .int .i64 0, .int .i64 0, .int .i64 0, .int .i64 0, .int .i64 0, .int .i64 0] 82))
    obtain ⟨⟨q0, q1⟩, ⟨r0, r1, rf⟩, _⟩ := HRD.out _ HY.out
    go_wp2_with fail
    obtain ⟨_, z0, _, zb⟩ := HA.out _ HY.out
    obtain ⟨z1, z2⟩ := set2 z0 zb (by omega) (.int .i64 0) (.int .i64 0)
    refine bodyPost_ret (res_ct Try.results21 _ _ (w.heap.size + 1) 49 #[.int .i64 0, .int .i64 0] (0, 0) _ rfl z1 Try.underlying49 rfl info_sp2) rfl ?_
    exact ⟨by rw [HN.out]; rfl, z2⟩
  | some k =>
    simp only [Option.getD_some, Option.isSome_some] at HCK
    go_wp2_with fail
    refine (HCK.out w1 HB1.out).mono ?_
    rintro e w2 ⟨rfl, hb2⟩
    have HB2 := Lib.hid (HB1.out.trans (hb2.mono HB1.out.size))
    clear hb2 q0 q1 r0 r1 rf
    obtain ⟨j, hj, hjk, hid⟩ := HMEM.out k rfl
    obtain ⟨⟨z, hz⟩, _⟩ := HO.out.ck j hj
    rw [hjk] at hz
    have HKO := Lib.hid hz
    have HVV : Hid (V = if alB z.x z.y k = true then .tuple #[.agg #[.int .i64 (alL z.x z.y k), .int .i64 (alH z.x z.y k)], .int .i64 0] else .tuple #[.agg #[.int .i64 0, .int .i64 0], .int .i64 9]) := Lib.hid (by
      have h := HV.out
      simp only [if_true] at h
      rw [h, hz.of]; rfl)
    have HCO := Lib.hid (fun w' (h : Below Z.heap.size Z w') => circleOf_any (.slice a1 cs.length c1) cs k.c w' (HV1.out.keep (HRD.out w' h).2.2) (by have := HO.out.n; omega))
    rw [hz.of] at HCO
    have HAL := Lib.hid (fun w' => allowed_any z.x z.y k w' hz.s hz.sl)
    obtain ⟨B, hB⟩ : ∃ x, alB z.x z.y k = x := ⟨_, rfl⟩
    obtain ⟨L, hL⟩ : ∃ x, alL z.x z.y k = x := ⟨_, rfl⟩
    obtain ⟨Q, hQ⟩ : ∃ x, alH z.x z.y k = x := ⟨_, rfl⟩
    rw [hB, hL, hQ] at HAL HVV
    clear hj hjk hid hz hB hL hQ HKO HV HMEM
    obtain ⟨ki, kc, kt, kx, ky, ks', kl⟩ := k
    obtain ⟨zi, zx, zy, zf, zt, zl, zh, zd⟩ := z
    simp only [Option.getD_some, Option.isSome_some] at HAL HCO
    have HB3 := Lib.hid (HB2.out.alloc HB2.out.size (.cells #[.int .i64 ki, .int .i64 kc, .int .i64 kt, .int .i64 kx, .int .i64 ky, .int .i64 ks', .int .i64 kl] 82))
    have HQ3 : Hid ((w2.alloc (.cells #[.int .i64 ki, .int .i64 kc, .int .i64 kt, .int .i64 kx, .int .i64 ky, .int .i64 ks', .int .i64 kl] 82)).heap[w2.heap.size]? = some (.cells #[.int .i64 ki, .int .i64 kc, .int .i64 kt, .int .i64 kx, .int .i64 ky, .int .i64 ks', .int .i64 kl] 82 (0, 0))) := Lib.hid (heap_alloc_new _ _)
    obtain ⟨⟨q0, q1⟩, _, _⟩ := HRD.out _ HB3.out
    obtain ⟨kb, hkb⟩ : ∃ y, w2.heap.size = y := ⟨_, rfl⟩
    rw [hkb] at HQ3
    obtain ⟨w3, hw3⟩ : ∃ X, w2.alloc (.cells #[.int .i64 ki, .int .i64 kc, .int .i64 kt, .int .i64 kx, .int .i64 ky, .int .i64 ks', .int .i64 kl] 82) = X := ⟨_, rfl⟩
    rw [hw3] at HB3 HQ3
    have HW3 := Lib.hid hw3
    clear hw3
    go_wp2_with fail
    rw [HW3.out]
    refine (HCO.out w3 HB3.out).mono ?_
    rintro e w4 ⟨rfl, hb4⟩
    have HB4 := Lib.hid (HB3.out.trans (hb4.mono HB3.out.size))
    have HQ4 := Lib.hid ((hb4.block _ (Array.getElem?_eq_some_iff.1 HQ3.out).1).trans HQ3.out)
    have HB5 := Lib.hid (HB4.out.alloc HB4.out.size (.cells #[.int .i64 zi, .int .i64 zx, .int .i64 zy, .int .i64 zf, .int .i64 zt, .int .i64 zl, .int .i64 zh, .int .i64 zd] 99))
    have HQ5 : Hid ((w4.alloc (.cells #[.int .i64 zi, .int .i64 zx, .int .i64 zy, .int .i64 zf, .int .i64 zt, .int .i64 zl, .int .i64 zh, .int .i64 zd] 99)).heap[w4.heap.size]? = some (.cells #[.int .i64 zi, .int .i64 zx, .int .i64 zy, .int .i64 zf, .int .i64 zt, .int .i64 zl, .int .i64 zh, .int .i64 zd] 99 (0, 0))) := Lib.hid (heap_alloc_new _ _)
    have s := (gNe w4 (.cells #[.int .i64 zi, .int .i64 zx, .int .i64 zy, .int .i64 zf, .int .i64 zt, .int .i64 zl, .int .i64 zh, .int .i64 zd] 99) kb (by have := (Array.getElem?_eq_some_iff.1 HQ4.out).1; omega)).trans HQ4.out
    have HQ6 := Lib.hid s
    have k0 := cellH HQ6.out 0
    have k1 := cellH HQ6.out 1
    have k2 := cellH HQ6.out 2
    have k3 := cellH HQ6.out 3
    have k4 := cellH HQ6.out 4
    have k5 := cellH HQ6.out 5
    have k6 := cellH HQ6.out 6
    simp only [List.getElem?_toArray, List.getElem?_cons_zero, List.getElem?_cons_succ] at k0 k1 k2 k3 k4 k5 k6
    obtain ⟨w5, hw5⟩ : ∃ X, w4.alloc (.cells #[.int .i64 zi, .int .i64 zx, .int .i64 zy, .int .i64 zf, .int .i64 zt, .int .i64 zl, .int .i64 zh, .int .i64 zd] 99) = X := ⟨_, rfl⟩
    rw [hw5] at HB5 HQ6
    have HW5 := Lib.hid hw5
    clear hb4 s hkb q0 q1 hw5
    go_wp2_with fail
    rw [HW5.out]
    refine (HAL.out w5).mono ?_
    rintro e w6 ⟨rfl, hb6⟩
    have HB6 := Lib.hid (HB5.out.trans (hb6.mono HB5.out.size))
    clear hb6 k0 k1 k2 k3 k4 k5 k6
    cases B
    · have HN : Hid (V = .tuple #[.agg #[.int .i64 0, .int .i64 0], .int .i64 9]) := Lib.hid (by rw [HVV.out]; rfl)
      have HB7 := Lib.hid (HB6.out.alloc HB6.out.size (.cells #[.int .i64 0, .int .i64 0] 49))
      obtain ⟨⟨q0, q1⟩, ⟨r0, r1, rf⟩, _⟩ := HRD.out _ HB7.out
      go_wp2_with fail
      obtain ⟨_, z0, _, zb⟩ := HA.out _ HB7.out
      obtain ⟨z1, z2⟩ := set2 z0 zb (by omega) (.int .i64 0) (.int .i64 0)
      refine bodyPost_ret (res_ct Try.results21 _ _ (w.heap.size + 1) 49 #[.int .i64 0, .int .i64 0] (0, 0) _ rfl z1 Try.underlying49 rfl info_sp2) rfl ?_
      exact ⟨by rw [HN.out]; rfl, z2⟩
    · have HN : Hid (V = .tuple #[.agg #[.int .i64 L, .int .i64 Q], .int .i64 0]) := Lib.hid (by rw [HVV.out]; rfl)
      have HB7 := Lib.hid (HB6.out.alloc HB6.out.size (.cells #[.int .i64 L, .int .i64 Q] 49))
      obtain ⟨⟨q0, q1⟩, ⟨r0, r1, rf⟩, _⟩ := HRD.out _ HB7.out
      go_wp2_with fail
      obtain ⟨_, z0, _, zb⟩ := HA.out _ HB7.out
      obtain ⟨z1, z2⟩ := set2 z0 zb (by omega) (.int .i64 L) (.int .i64 Q)
      refine bodyPost_ret (res_ct Try.results21 _ _ (w.heap.size + 1) 49 #[.int .i64 L, .int .i64 Q] (0, 0) _ rfl z1 Try.underlying49 rfl info_sp2) rfl ?_
      exact ⟨by rw [HN.out]; rfl, z2⟩
end Go.Proofs.Ytpaihnjgpookjaa
