/- Package circle: Wedge. -/
import Derived.Test.YtpaihnjgpookjaaCD0
import Derived.Test.YtpaihnjgpookjaaCA6
set_option linter.unusedVariables false
set_option linter.unusedSimpArgs false
namespace Go.Proofs.Ytpaihnjgpookjaa
open Go Go.RowKit

/-- What the wedge of a reading is. -/
def wgV (cs : List Ci) (ks : List Ck) (rc rt rs rl : Int) : Value :=
  if zfE cs ks rc rt rs rl = 0 then .tuple #[.agg #[.int .i64 ((rs - rl - zrH cs ks rc rt) % 3600), .int .i64 ((rs + rl - zrL cs ks rc rt) % 3600)], .int .i64 0] else .tuple #[.agg #[.int .i64 0, .int .i64 0], .int .i64 (zfE cs ks rc rt rs rl)]
theorem zf_fit {cs : List Ci} {ks : List Ck} {rc rt rs rl : Int} {z : Ci} (h : zfE cs ks rc rt rs rl = 0) (hz : ciF cs rc = some z) : (0 ≤ rs ∧ rs ≤ 3599) ∧ (1 ≤ rl ∧ rl ≤ 100) ∧ (-300 ≤ zrL cs ks rc rt ∧ zrL cs ks rc rt ≤ 300) ∧ -300 ≤ zrH cs ks rc rt ∧ zrH cs ks rc rt ≤ 300 := by
  unfold zfE at h
  split at h
  · rename_i h0
    obtain ⟨ho, h1, h2, h3⟩ := df_fit h0 hz
    have hzo := Ci.ok_iff.1 (ciF_ok ho hz)
    have hb := sp_bd (dr := z.dr) (l := dlL z ks) (t := rt) (by omega) (by omega) (dlL_ok ho hz)
    obtain ⟨e1, e2⟩ := zr_of (ks := ks) (t := rt) hz
    rw [e1, e2]
    exact ⟨h1, h2, hb⟩
  · rename_i h0; exact absurd h h0
set_option maxRecDepth 100000 in
set_option maxHeartbeats 8000000 in
theorem Wedge_any (v1 v2 : Value) (cs : List Ci) (ks : List Ck) (rc rt rs rl : Int) (w : World) (hv1 : CiRow w v1 cs) (hv2 : CkRow w v2 ks) (hl1 : cs.length ≤ 9223372036854775807) (hl2 : ks.length ≤ 9223372036854775807) :
    Calls Try.prog 38 #[.agg #[v1, v2], .agg #[.int .i64 rc, .int .i64 rt, .int .i64 rs, .int .i64 rl]] w fun e w' => e = .returned (wgV cs ks rc rt rs rl) ∧ Below w.heap.size w w' := by
  have HZF := Lib.hid (fun w' (h : Below w.heap.size w w') => zerosFor_any v1 v2 cs ks rc rt rs rl w' (hv1.keep h) (hv2.keep h) hl1 hl2)
  have HFIT := Lib.hid (fun z => zf_fit (cs := cs) (ks := ks) (rc := rc) (rt := rt) (rs := rs) (rl := rl) (z := z))
  have HV : Hid (wgV cs ks rc rt rs rl = _) := Lib.hid (wgV.eq_1 cs ks rc rt rs rl)
  obtain ⟨V, hV⟩ : ∃ V, wgV cs ks rc rt rs rl = V := ⟨_, rfl⟩
  obtain ⟨E, hE⟩ : ∃ E, zfE cs ks rc rt rs rl = E := ⟨_, rfl⟩
  obtain ⟨lo, hlo⟩ : ∃ x, zrL cs ks rc rt = x := ⟨_, rfl⟩
  obtain ⟨hi, hhi⟩ : ∃ x, zrH cs ks rc rt = x := ⟨_, rfl⟩
  unfold ZfOut at HZF
  rw [hV, hE, hlo, hhi] at HV
  rw [hV]
  rw [hE, hlo, hhi] at HZF HFIT
  clear hV hE hv1 hv2 hlo hhi
  have HA := Lib.hid (fun W' => cells3 w #[v1, v2] #[.int .i64 rc, .int .i64 rt, .int .i64 rs, .int .i64 rl] #[.int .i64 0, .int .i64 0] 46 77 23 (W := W'))
  have HB0 := Lib.hid (Below.refl (((w.alloc (.cells #[v1, v2] 46)).alloc (.cells #[.int .i64 rc, .int .i64 rt, .int .i64 rs, .int .i64 rl] 77)).alloc (.cells #[.int .i64 0, .int .i64 0] 23)).heap.size (((w.alloc (.cells #[v1, v2] 46)).alloc (.cells #[.int .i64 rc, .int .i64 rt, .int .i64 rs, .int .i64 rl] 77)).alloc (.cells #[.int .i64 0, .int .i64 0] 23)))
  obtain ⟨Z, hZ⟩ : ∃ Z, ((w.alloc (.cells #[v1, v2] 46)).alloc (.cells #[.int .i64 rc, .int .i64 rt, .int .i64 rs, .int .i64 rl] 77)).alloc (.cells #[.int .i64 0, .int .i64 0] 23) = Z := ⟨_, rfl⟩
  rw [hZ] at HA HB0
  have HZ := Lib.hid hZ
  clear hZ
  go_enter Try.func38, Try.ntmps38
  go_wp2_with fail
  rw [HZ.out]
  refine (HZF.out Z (HA.out Z HB0.out).2.2.2.2).mono ?_
  rintro e w1 ⟨hb1, hne, hz⟩
  have HB1 := Lib.hid hb1
  clear hb1
  by_cases h0 : E = 0
  case neg =>
    have HN : Hid (V = .tuple #[.agg #[.int .i64 0, .int .i64 0], .int .i64 E]) := Lib.hid (by rw [HV.out, if_neg h0])
    have h0' : (E != 0) = true := by simpa using h0
    have he := hne h0
    subst he
    clear h0 hne hz
    unfold dl0
    have HBD := Lib.hid (HB1.out.trans ((two_cells w1 #[.int .i64 0, .int .i64 0, .int .i64 0, .int .i64 0, .int .i64 0, .int .i64 0, .int .i64 0, .int .i64 0, .slice none 0 0] #[.int .i64 0, .int .i64 0] 112 49 (Below.refl _ _)).2.2.2.mono HB1.out.size))
    obtain ⟨x1, x2, x3, x4, x5⟩ := HA.out _ HBD.out
    have HX3 := Lib.hid x3
    have HX5 := Lib.hid x5
    have q0 := cellH x1 0
    have q1 := cellH x1 1
    have p0 := cellH x2 0
    have p1 := cellH x2 1
    have p2 := cellH x2 2
    have p3 := cellH x2 3
    have r0 := cellH x3 0
    have r1 := cellH x3 1
    have rf := freeH x3
    simp only [List.getElem?_toArray, List.getElem?_cons_zero, List.getElem?_cons_succ] at q0 q1 p0 p1 p2 p3 r0 r1
    clear x1 x2 x3 x4 x5
    go_wp2_with fail
    obtain ⟨z1, z2⟩ := set2 HX3.out HX5.out (by omega) (.int .i64 0) (.int .i64 0)
    refine bodyPost_ret (res_ct Try.results38 _ _ (w.heap.size + 1 + 1) 23 #[.int .i64 0, .int .i64 0] (0, 0) _ ?_ z1 Try.underlying23 rfl info_we2) ?_ ?_
    · rfl
    · rfl
    exact ⟨by rw [HN.out]; rfl, z2⟩
  obtain ⟨z, v, hzv, rfl, hr, hO⟩ := hz h0
  subst h0
  obtain ⟨hs, hl, hbl, hbh⟩ := HFIT.out z rfl hzv
  have HN : Hid (V = .tuple #[.agg #[.int .i64 ((rs - rl - hi) % 3600), .int .i64 ((rs + rl - lo) % 3600)], .int .i64 0]) := Lib.hid (by rw [HV.out, if_pos rfl])
  have HT1 := Lib.hid (fun w' => qturn_any (rs - rl - hi) w')
  have HT2 := Lib.hid (fun w' => qturn_any (rs + rl - lo) w')
  have e1 : IntKind.i64.wrap (rs - rl) = rs - rl := IntWalk.i64_in _ (by omega)
  have e2 : IntKind.i64.wrap (rs - rl - hi) = rs - rl - hi := IntWalk.i64_in _ (by omega)
  have e3 : IntKind.i64.wrap (rs + rl) = rs + rl := IntWalk.i64_in _ (by omega)
  have e4 : IntKind.i64.wrap (rs + rl - lo) = rs + rl - lo := IntWalk.i64_in _ (by omega)
  obtain ⟨g, n, cap, C, rfl, hC⟩ := hO
  obtain ⟨zi, zx, zy, zf, zt, zl, zh, dr⟩ := z
  have htc := two_cells w1 #[.int .i64 zi, .int .i64 zx, .int .i64 zy, .int .i64 zf, .int .i64 zt, .int .i64 zl, .int .i64 zh, .int .i64 dr, .slice (some ⟨g, 0, none⟩) n cap] #[.int .i64 lo, .int .i64 hi] 112 49 (Below.refl _ _)
  have HBD := Lib.hid (HB1.out.trans (htc.2.2.2.mono HB1.out.size))
  have HW := Lib.hid htc.2.1
  obtain ⟨X1, hX1⟩ : ∃ X, (w1.alloc (.cells #[.int .i64 zi, .int .i64 zx, .int .i64 zy, .int .i64 zf, .int .i64 zt, .int .i64 zl, .int .i64 zh, .int .i64 dr, .slice (some ⟨g, 0, none⟩) n cap] 112)).alloc (.cells #[.int .i64 lo, .int .i64 hi] 49) = X := ⟨_, rfl⟩
  obtain ⟨sb, hsb⟩ : ∃ x, w1.heap.size = x := ⟨_, rfl⟩
  rw [hX1] at HBD HW
  rw [hsb] at HW
  clear htc hC
  unfold dlV
  clear hs hl hbl hbh hzv hr hne hz HFIT HZF
  obtain ⟨x1, x2, x3, x4, x5⟩ := HA.out _ HBD.out
  have HX3 := Lib.hid x3
  have HX5 := Lib.hid x5
  have q0 := cellH x1 0
  have q1 := cellH x1 1
  have p0 := cellH x2 0
  have p1 := cellH x2 1
  have p2 := cellH x2 2
  have p3 := cellH x2 3
  have r0 := cellH x3 0
  have r1 := cellH x3 1
  have rf := freeH x3
  simp only [List.getElem?_toArray, List.getElem?_cons_zero, List.getElem?_cons_succ] at q0 q1 p0 p1 p2 p3 r0 r1
  clear x1 x2 x3 x4 x5
  have y0 := cellH HW.out 0
  have y1 := cellH HW.out 1
  simp only [List.getElem?_toArray, List.getElem?_cons_zero, List.getElem?_cons_succ] at y0 y1
  go_wp2_with fail
  clear hX1
  have HRY : Hid (∀ w', Below X1.heap.size X1 w' → w'.cell? ⟨w.heap.size + 1, 2, none⟩ = some (.int .i64 rs) ∧ w'.cell? ⟨w.heap.size + 1, 3, none⟩ = some (.int .i64 rl) ∧ w'.cell? ⟨sb + 1, 0, none⟩ = some (.int .i64 lo) ∧ w'.cell? ⟨sb + 1, 1, none⟩ = some (.int .i64 hi)) := Lib.hid (fun w' h => by
    have x2 := (HA.out w' (HBD.out.trans (h.mono HBD.out.size))).2.1
    have x3 := (h.block _ (Array.getElem?_eq_some_iff.1 HW.out).1).trans HW.out
    exact ⟨cellH x2 2, cellH x2 3, cellH x3 0, cellH x3 1⟩)
  have C1 : Hid (∀ w', Below X1.heap.size X1 w' → Calls Try.prog 31 #[.int .i64 (rs - rl - hi)] w' fun e w'' => e = .returned (.int .i64 ((rs - rl - hi) % 3600)) ∧ Below X1.heap.size X1 w'') := Lib.hid (fun w' h => (HT1.out w').mono fun e w'' ⟨he, hw⟩ => ⟨he, by rw [hw]; exact h⟩)
  have C2 : Hid (∀ w', Below X1.heap.size X1 w' → Calls Try.prog 31 #[.int .i64 (rs + rl - lo)] w' fun e w'' => e = .returned (.int .i64 ((rs + rl - lo) % 3600)) ∧ Below X1.heap.size X1 w'') := Lib.hid (fun w' h => (HT2.out w').mono fun e w'' ⟨he, hw⟩ => ⟨he, by rw [hw]; exact h⟩)
  clear q0 q1 p0 p1 p2 p3 r0 r1 rf HX3 HX5
  clear y0 y1
  refine wp_region_turn 19 (fun _ w' => Below X1.heap.size X1 w') (by kernel_rfl) (by kernel_rfl) ((Below.refl _ X1).drew) ?_
  simp only [List.take_succ_cons, List.take_zero, List.drop_succ_cons, List.drop_zero]
  iterate 19
    (first
      | (apply turnC_step (by rfl); (intro w' hw'; obtain ⟨q0, q1, q2, q3⟩ := HRY.out w' hw'; go_simp; first | with_reducible exact ⟨hw', rfl⟩ | with_reducible exact rfl | with_reducible exact ⟨hw', congrArg (Value.int .i64) e1⟩ | with_reducible exact ⟨hw', congrArg (Value.int .i64) e2⟩ | with_reducible exact ⟨hw', congrArg (Value.int .i64) e3⟩ | with_reducible exact ⟨hw', congrArg (Value.int .i64) e4⟩))
      | (apply turnC_step (by rfl); (intro w' hw'; go_simp; first | with_reducible exact C1.out w' hw' | with_reducible exact C2.out w' hw')))
    simp only [Act.put, List.setIfInBounds_toArray, List.set_cons_succ, List.set_cons_zero]
  intro listed w5 _ hw5
  have HB5 := Lib.hid (HBD.out.trans (hw5.mono HBD.out.size))
  clear hw5
  obtain ⟨x1, x2, x3, x4, x5⟩ := HA.out _ HB5.out
  have HX3 := Lib.hid x3
  have HX5 := Lib.hid x5
  have q0 := cellH x1 0
  have q1 := cellH x1 1
  have p0 := cellH x2 0
  have p1 := cellH x2 1
  have p2 := cellH x2 2
  have p3 := cellH x2 3
  have r0 := cellH x3 0
  have r1 := cellH x3 1
  have rf := freeH x3
  simp only [List.getElem?_toArray, List.getElem?_cons_zero, List.getElem?_cons_succ] at q0 q1 p0 p1 p2 p3 r0 r1
  clear x1 x2 x3 x4 x5
  go_wp2_with fail
  obtain ⟨z1, z2⟩ := set2 HX3.out HX5.out (by omega) (.int .i64 ((rs - rl - hi) % 3600)) (.int .i64 ((rs + rl - lo) % 3600))
  refine bodyPost_ret (res_ct Try.results38 _ _ (w.heap.size + 1 + 1) 23 #[.int .i64 ((rs - rl - hi) % 3600), .int .i64 ((rs + rl - lo) % 3600)] (0, 0) _ ?_ z1 Try.underlying23 rfl info_we2) ?_ ?_
  · rfl
  · rfl
  exact ⟨by rw [HN.out]; rfl, z2⟩
end Go.Proofs.Ytpaihnjgpookjaa
