/- Merged: CC9, CD0, CD1, CD2. -/
import Derived.Test.YtebdboacmeafaaaGreatCCB
import Derived.Test.YtebdboacmeafaaaGreatHIA
import Derived.Test.YtebdboacmeafaaaGreatCAB
import Derived.Test.YtebdboacmeafaaaGreatCCA
import Derived.Test.YtebdboacmeafaaaGreatCB1
import Derived.ChangeKeysEq
import Derived.Laws.StructEq
/- Package circle: dialFor. -/
set_option linter.unusedVariables false
set_option linter.unusedSimpArgs false
namespace Go.Proofs.YtebdboacmeafaaaGreat
open Go Go.RowKit

/-- The code that dialFor answers. -/
def dfE (cs : List Ci) (ks : List Ck) (rc rt rs rl : Int) : Int := if ccE cs ks = 0 then (if (ciB rs 0 3599 && ciB rl 1 100) = true then dtE (ciF cs rc) ks rt else 1) else ccE cs ks
/-- The answer of dialFor. -/
def DfOut (cs : List Ci) (ks : List Ck) (rc rt rs rl : Int) (w : World) (e : Ending) (w' : World) : Prop :=
  Below w.heap.size w w' ∧ (dfE cs ks rc rt rs rl ≠ 0 → e = .returned (.tuple #[dl0, .int .i64 (dfE cs ks rc rt rs rl)])) ∧ (dfE cs ks rc rt rs rl = 0 → ∃ z v, ciF cs rc = some z ∧ e = .returned (.tuple #[dlV z v, .int .i64 0]) ∧ ThRow w' v (dlL z ks) ∧ ThOwn w' v)
set_option maxRecDepth 100000 in
set_option maxHeartbeats 8000000 in
theorem dialFor_any (v1 v2 : Value) (cs : List Ci) (ks : List Ck) (rc rt rs rl : Int) (w : World) (hv1 : CiRow w v1 cs) (hv2 : CkRow w v2 ks) (hl1 : cs.length ≤ 9223372036854775807) (hl2 : ks.length ≤ 9223372036854775807) :
    Calls Tryz.prog 73 #[.agg #[v1, v2], .agg #[.int .i64 rc, .int .i64 rt, .int .i64 rs, .int .i64 rl]] w fun e w' => DfOut cs ks rc rt rs rl w e w' := by
  have HCH := Lib.hid (fun w' (h : Below w.heap.size w w') => cCheck_any v1 v2 cs ks w' (hv1.keep h) (hv2.keep h) hl1 hl2)
  have HDA := Lib.hid (fun w' (h : Below w.heap.size w w') (ho : CcOk cs ks) => dialAt_any v1 v2 cs ks rc rt w' (hv1.keep h) (hv2.keep h) ho)
  have HOK := Lib.hid (ccE_ok (cs := cs) (ks := ks))
  have H2 := Lib.hid (fun w' => validDivision_any rs w')
  have H3 := Lib.hid (fun w' => validSlack_any rl w')
  have HE : Hid (dfE cs ks rc rt rs rl = _) := Lib.hid (dfE.eq_1 cs ks rc rt rs rl)
  obtain ⟨E, hE⟩ : ∃ E, dfE cs ks rc rt rs rl = E := ⟨_, rfl⟩
  obtain ⟨F, hF⟩ : ∃ F, ccE cs ks = F := ⟨_, rfl⟩
  obtain ⟨c1, hc1⟩ : ∃ n, ciB rs 0 3599 = n := ⟨_, rfl⟩
  obtain ⟨c2, hc2⟩ : ∃ n, ciB rl 1 100 = n := ⟨_, rfl⟩
  unfold DfOut
  rw [hE, hF, hc1, hc2] at HE
  rw [hE]
  rw [hF] at HCH HOK
  rw [hc1] at H2
  rw [hc2] at H3
  clear hE hF hv1 hv2 hc1 hc2
  have HA := Lib.hid (fun W' => cells3 w #[v1, v2] #[.int .i64 rc, .int .i64 rt, .int .i64 rs, .int .i64 rl] #[.int .i64 0, .int .i64 0, .int .i64 0, .int .i64 0, .int .i64 0, .int .i64 0, .int .i64 0, .int .i64 0, .slice none 0 0] 25 50 119 (W := W'))
  have HB0 := Lib.hid (Below.refl (((w.alloc (.cells #[v1, v2] 25)).alloc (.cells #[.int .i64 rc, .int .i64 rt, .int .i64 rs, .int .i64 rl] 50)).alloc (.cells #[.int .i64 0, .int .i64 0, .int .i64 0, .int .i64 0, .int .i64 0, .int .i64 0, .int .i64 0, .int .i64 0, .slice none 0 0] 119)).heap.size (((w.alloc (.cells #[v1, v2] 25)).alloc (.cells #[.int .i64 rc, .int .i64 rt, .int .i64 rs, .int .i64 rl] 50)).alloc (.cells #[.int .i64 0, .int .i64 0, .int .i64 0, .int .i64 0, .int .i64 0, .int .i64 0, .int .i64 0, .int .i64 0, .slice none 0 0] 119)))
  obtain ⟨Z, hZ⟩ : ∃ Z, ((w.alloc (.cells #[v1, v2] 25)).alloc (.cells #[.int .i64 rc, .int .i64 rt, .int .i64 rs, .int .i64 rl] 50)).alloc (.cells #[.int .i64 0, .int .i64 0, .int .i64 0, .int .i64 0, .int .i64 0, .int .i64 0, .int .i64 0, .int .i64 0, .slice none 0 0] 119) = Z := ⟨_, rfl⟩
  rw [hZ] at HA HB0
  have HZ := Lib.hid hZ
  clear hZ
  go_enter Tryz.func73, Tryz.ntmps73
  go_wp2_with fail
  rw [HZ.out]
  refine (HCH.out Z (HA.out Z HB0.out).2.2.2.2).mono ?_
  rintro e w1 ⟨rfl, hb1⟩
  have HB1 := Lib.hid hb1
  clear hb1
  obtain ⟨x1, x2, x3, x4, x5⟩ := HA.out _ HB1.out
  have HX3 := Lib.hid x3
  have HX5 := Lib.hid x5
  have q0 := cellH x1 0
  have q1 := cellH x1 1
  have p0 := cellH x2 0
  have p1 := cellH x2 1
  have p2 := cellH x2 2
  have p3 := cellH x2 3
  have r0 := cellH x3 0
  have r1 := cellH x3 1
  have r2 := cellH x3 2
  have r3 := cellH x3 3
  have r4 := cellH x3 4
  have r5 := cellH x3 5
  have r6 := cellH x3 6
  have r7 := cellH x3 7
  have r8 := cellH x3 8
  have rf := freeH x3
  simp only [List.getElem?_toArray, List.getElem?_cons_zero, List.getElem?_cons_succ] at q0 q1 p0 p1 p2 p3 r0 r1 r2 r3 r4 r5 r6 r7 r8
  clear x1 x2 x3 x4 x5
  by_cases h0 : F = 0
  case neg =>
    have HN : Hid (E = F) := Lib.hid (by rw [HE.out, if_neg h0])
    have h0' : (F != 0) = true := by simpa using h0
    have HNE := Lib.hid h0
    clear h0
    go_wp2_with fail
    obtain ⟨z1, z2⟩ := set9 HX3.out HX5.out (by omega) (.int .i64 0) (.int .i64 0) (.int .i64 0) (.int .i64 0) (.int .i64 0) (.int .i64 0) (.int .i64 0) (.int .i64 0) (.slice none 0 0)
    refine bodyPost_ret (res_ct Tryz.results73 _ _ (w.heap.size + 1 + 1) 119 #[.int .i64 0, .int .i64 0, .int .i64 0, .int .i64 0, .int .i64 0, .int .i64 0, .int .i64 0, .int .i64 0, .slice none 0 0] (0, 0) _ rfl z1 Tryz.underlying119 rfl info_di9) rfl ?_
    exact ⟨z2, fun _ => by rw [HN.out]; rfl, fun h => absurd (HN.out.symm.trans h) HNE.out⟩
  subst h0
  have HO := Lib.hid (HOK.out rfl)
  cases c1
  case false =>
    have HN : Hid (E = 1) := Lib.hid (by rw [HE.out]; rfl)
    go_wp2_with fail
    refine (H2.out _).mono ?_
    rintro e w2 ⟨rfl, rfl⟩
    go_wp2_with fail
    obtain ⟨z1, z2⟩ := set9 HX3.out HX5.out (by omega) (.int .i64 0) (.int .i64 0) (.int .i64 0) (.int .i64 0) (.int .i64 0) (.int .i64 0) (.int .i64 0) (.int .i64 0) (.slice none 0 0)
    refine bodyPost_ret (res_ct Tryz.results73 _ _ (w.heap.size + 1 + 1) 119 #[.int .i64 0, .int .i64 0, .int .i64 0, .int .i64 0, .int .i64 0, .int .i64 0, .int .i64 0, .int .i64 0, .slice none 0 0] (0, 0) _ rfl z1 Tryz.underlying119 rfl info_di9) rfl ?_
    exact ⟨z2, fun _ => by rw [HN.out]; rfl, fun h => absurd h (by rw [HN.out]; decide)⟩
  cases c2
  case false =>
    have HN : Hid (E = 1) := Lib.hid (by rw [HE.out]; rfl)
    go_wp2_with fail
    refine (H2.out _).mono ?_
    rintro e w2 ⟨rfl, rfl⟩
    go_wp2_with fail
    refine (H3.out _).mono ?_
    rintro e w3 ⟨rfl, rfl⟩
    go_wp2_with fail
    obtain ⟨z1, z2⟩ := set9 HX3.out HX5.out (by omega) (.int .i64 0) (.int .i64 0) (.int .i64 0) (.int .i64 0) (.int .i64 0) (.int .i64 0) (.int .i64 0) (.int .i64 0) (.slice none 0 0)
    refine bodyPost_ret (res_ct Tryz.results73 _ _ (w.heap.size + 1 + 1) 119 #[.int .i64 0, .int .i64 0, .int .i64 0, .int .i64 0, .int .i64 0, .int .i64 0, .int .i64 0, .int .i64 0, .slice none 0 0] (0, 0) _ rfl z1 Tryz.underlying119 rfl info_di9) rfl ?_
    exact ⟨z2, fun _ => by rw [HN.out]; rfl, fun h => absurd h (by rw [HN.out]; decide)⟩
  have HE2 : Hid (E = dtE (ciF cs rc) ks rt) := Lib.hid (by rw [HE.out]; rfl)
  go_wp2_with fail
  refine (H2.out _).mono ?_
  rintro e w2 ⟨rfl, rfl⟩
  go_wp2_with fail
  refine (H3.out _).mono ?_
  rintro e w3 ⟨rfl, rfl⟩
  go_wp2_with fail
  refine (HDA.out _ (HA.out _ HB1.out).2.2.2.2 HO.out).mono ?_
  rintro e w4 ⟨hb4, hne, hz⟩
  have HB4 := Lib.hid (HB1.out.trans (hb4.mono HB1.out.size))
  clear hb4
  clear q0 q1 p0 p1 p2 p3 r0 r1 r2 r3 r4 r5 r6 r7 r8 rf HX3 HX5
  rw [← HE2.out] at hne hz
  obtain ⟨x1, x2, x3, x4, x5⟩ := HA.out _ HB4.out
  have HX3 := Lib.hid x3
  have HX5 := Lib.hid x5
  have q0 := cellH x1 0
  have q1 := cellH x1 1
  have p0 := cellH x2 0
  have p1 := cellH x2 1
  have p2 := cellH x2 2
  have p3 := cellH x2 3
  have r0 := cellH x3 0
  have r1 := cellH x3 1
  have r2 := cellH x3 2
  have r3 := cellH x3 3
  have r4 := cellH x3 4
  have r5 := cellH x3 5
  have r6 := cellH x3 6
  have r7 := cellH x3 7
  have r8 := cellH x3 8
  have rf := freeH x3
  simp only [List.getElem?_toArray, List.getElem?_cons_zero, List.getElem?_cons_succ] at q0 q1 p0 p1 p2 p3 r0 r1 r2 r3 r4 r5 r6 r7 r8
  clear x1 x2 x3 x4 x5
  by_cases h0 : E = 0
  case neg =>
    have he := hne h0
    subst he
    have HNE := Lib.hid h0
    clear h0 hne hz
    unfold dl0
    go_wp2_with fail
    obtain ⟨z1, z2⟩ := set9 HX3.out HX5.out (by omega) (.int .i64 0) (.int .i64 0) (.int .i64 0) (.int .i64 0) (.int .i64 0) (.int .i64 0) (.int .i64 0) (.int .i64 0) (.slice none 0 0)
    refine bodyPost_ret (res_ct Tryz.results73 _ _ (w.heap.size + 1 + 1) 119 #[.int .i64 0, .int .i64 0, .int .i64 0, .int .i64 0, .int .i64 0, .int .i64 0, .int .i64 0, .int .i64 0, .slice none 0 0] (0, 0) _ rfl z1 Tryz.underlying119 rfl info_di9) rfl ?_
    exact ⟨z2, fun _ => rfl, fun h => absurd h HNE.out⟩
  obtain ⟨z, v, hzv, rfl, hr, hO⟩ := hz h0
  have HZV := Lib.hid hzv
  have HR := Lib.hid hr
  have HTO := Lib.hid hO
  have HE0 := Lib.hid (show E = 0 from h0)
  obtain ⟨g, n, cap, C, rfl, hC⟩ := hO
  obtain ⟨zi, zx, zy, zf, zt, zl, zh, dr⟩ := z
  unfold dlV
  simp only
  clear hne hz hzv hr hC h0
  go_wp2_with fail
  obtain ⟨z1, z2⟩ := set9 HX3.out HX5.out (by omega) (.int .i64 zi) (.int .i64 zx) (.int .i64 zy) (.int .i64 zf) (.int .i64 zt) (.int .i64 zl) (.int .i64 zh) (.int .i64 dr) (.slice (some ⟨g, 0, none⟩) n cap)
  refine bodyPost_ret (res_ct Tryz.results73 _ _ (w.heap.size + 1 + 1) 119 #[.int .i64 zi, .int .i64 zx, .int .i64 zy, .int .i64 zf, .int .i64 zt, .int .i64 zl, .int .i64 zh, .int .i64 dr, .slice (some ⟨g, 0, none⟩) n cap] (0, 0) _ rfl z1 Tryz.underlying119 rfl info_di9) rfl ?_
  obtain ⟨g', n', cap', C', hv', hC'⟩ := HTO.out
  cases hv'
  have hne : g ≠ w.heap.size + 1 + 1 := by
    rintro rfl
    have h1 := hC'.symm.trans HX3.out
    simp at h1
  have hs := same9 (W := w4) hne (.int .i64 zi) (.int .i64 zx) (.int .i64 zy) (.int .i64 zf) (.int .i64 zt) (.int .i64 zl) (.int .i64 zh) (.int .i64 dr) (.slice (some ⟨g, 0, none⟩) n cap)
  exact ⟨z2, fun h => absurd HE0.out h, fun _ => ⟨_, _, HZV.out, rfl, HR.out.same hs, ⟨g, n, cap, C', rfl, hs.trans hC'⟩⟩⟩
end Go.Proofs.YtebdboacmeafaaaGreat
/- Package circle: zerosFor. -/
set_option linter.unusedVariables false
set_option linter.unusedSimpArgs false
namespace Go.Proofs.YtebdboacmeafaaaGreat
open Go Go.RowKit

theorem res_cct {P : Program} {fn : Func} {p p2 u : Tmp} {ty ty2 : TypeId} (h : fn.results = #[.cell p ty, .cell p2 ty2, .tmp u]) (tmps : Array Value) (w : World) (g g2 : Nat) (t t2 : TypeId) (cs cs2 : Array Value) (fr fr2 : Nat × Nat) (d d2 : TypeDesc)
    (hp : tmps.getD p undef = .pointer (some ⟨g, 0, none⟩)) (hp2 : tmps.getD p2 undef = .pointer (some ⟨g2, 0, none⟩)) (hg : w.heap[g]? = some (.cells cs t fr)) (hg2 : w.heap[g2]? = some (.cells cs2 t2 fr2))
    (hu : P.underlying ty = some d) (hd : (match d with | .struct _ | .array _ _ => true | _ => false) = true) (hi : (P.info? ty).map (·.size) = some cs.size)
    (hu2 : P.underlying ty2 = some d2) (hd2 : (match d2 with | .struct _ | .array _ _ => true | _ => false) = true) (hi2 : (P.info? ty2).map (·.size) = some cs2.size) :
    (results fn tmps).run P w = .ok (.tuple #[.agg cs, .agg cs2, tmps.getD u undef]) w := by
  have hp' : tmps[p]?.getD undef = .pointer (some ⟨g, 0, none⟩) := by simpa using hp
  have hp2' : tmps[p2]?.getD undef = .pointer (some ⟨g2, 0, none⟩) := by simpa using hp2
  simp only [results, h]
  simp [Sem.run_bind, Result.andThen, hp', hp2', asAddr, run_loadVar_row w g t ty cs fr d hg hu hd hi, run_loadVar_row w g2 t2 ty2 cs2 fr2 d2 hg2 hu2 hd2 hi2]
theorem maxL_bd : ∀ (l : List Int) (n : Int), -300 ≤ n → n ≤ 300 → (∀ x ∈ l, x ≤ 300) → -300 ≤ maxL n l ∧ maxL n l ≤ 300
  | [], n, h1, h2, _ => ⟨h1, h2⟩
  | a :: l, n, h1, h2, h => by
    have ha := h a List.mem_cons_self
    exact maxL_bd l (max n a) (by omega) (by omega) (fun x hx => h x (List.mem_cons_of_mem _ hx))
theorem minL_bd : ∀ (l : List Int) (n : Int), -300 ≤ n → n ≤ 300 → (∀ x ∈ l, -300 ≤ x) → -300 ≤ minL n l ∧ minL n l ≤ 300
  | [], n, h1, h2, _ => ⟨h1, h2⟩
  | a :: l, n, h1, h2, h => by
    have ha := h a List.mem_cons_self
    exact minL_bd l (min n a) (by omega) (by omega) (fun x hx => h x (List.mem_cons_of_mem _ hx))
theorem sp_bd {dr : Int} {l : List Th} {t : Int} (hd : 0 ≤ dr ∧ dr ≤ 60) (ht : 0 ≤ t ∧ t ≤ 1048576) (hok : ∀ h ∈ l, h.ok) : (-300 ≤ spLo dr l t ∧ spLo dr l t ≤ 300) ∧ -300 ≤ spHi dr l t ∧ spHi dr l t ≤ 300 := by
  refine ⟨maxL_bd _ _ (by decide) (by decide) fun x hx => ?_, minL_bd _ _ (by decide) (by decide) fun x hx => ?_⟩
  · obtain ⟨h, hh, rfl⟩ := List.mem_map.1 hx
    have h1 := hok h hh
    have h2 := (fr_mul hd h1.1 ht).2.1
    unfold lowI
    have := h1.2.1.2
    omega
  · obtain ⟨h, hh, rfl⟩ := List.mem_map.1 hx
    have h1 := hok h hh
    have h2 := (fr_mul hd h1.1 ht).2.1
    unfold highI
    have := h1.2.2.1
    omega
theorem zr_of {cs : List Ci} {ks : List Ck} {id t : Int} {z : Ci} (h : ciF cs id = some z) : zrL cs ks id t = spLo z.dr (dlL z ks) t ∧ zrH cs ks id t = spHi z.dr (dlL z ks) t := by
  unfold zrL zrH; rw [h]; exact ⟨rfl, rfl⟩
theorem df_fit {cs : List Ci} {ks : List Ck} {rc rt rs rl : Int} {z : Ci} (h : dfE cs ks rc rt rs rl = 0) (hz : ciF cs rc = some z) : CcOk cs ks ∧ (0 ≤ rs ∧ rs ≤ 3599) ∧ (1 ≤ rl ∧ rl ≤ 100) ∧ z.f ≤ rt ∧ rt ≤ z.t := by
  unfold dfE at h
  split at h
  · rename_i h0
    split at h
    · rename_i h1
      rw [Bool.and_eq_true, ci_iff, ci_iff] at h1
      rw [hz] at h
      unfold dtE at h
      have hct : ciB rt z.f z.t = true := by
        cases hc : ciB rt z.f z.t
        · rw [hc] at h; simp at h
        · rfl
      exact ⟨ccE_ok h0, h1.1, h1.2, ci_iff.1 hct⟩
    · cases h
  · rename_i h0; exact absurd h h0
/-- The code that zerosFor answers. -/
def zfE (cs : List Ci) (ks : List Ck) (rc rt rs rl : Int) : Int := if dfE cs ks rc rt rs rl = 0 then (if 900 < 2 * rl + zrH cs ks rc rt - zrL cs ks rc rt then 50 else 0) else dfE cs ks rc rt rs rl
/-- The answer of zerosFor. -/
def ZfOut (cs : List Ci) (ks : List Ck) (rc rt rs rl : Int) (w : World) (e : Ending) (w' : World) : Prop :=
  Below w.heap.size w w' ∧ (zfE cs ks rc rt rs rl ≠ 0 → e = .returned (.tuple #[dl0, .agg #[.int .i64 0, .int .i64 0], .int .i64 (zfE cs ks rc rt rs rl)])) ∧ (zfE cs ks rc rt rs rl = 0 → ∃ z v, ciF cs rc = some z ∧ e = .returned (.tuple #[dlV z v, .agg #[.int .i64 (zrL cs ks rc rt), .int .i64 (zrH cs ks rc rt)], .int .i64 0]) ∧ ThRow w' v (dlL z ks) ∧ ThOwn w' v)
/-- The worlds and frames in the last region of zerosFor. -/
def RzI (w w3 : World) (v1 v2 : Value) (rc rt rs rl lo hi zi zx zy zf zt zl zh dr : Int) (g n cap db sb : Nat) (listed : Array Bool) (a : Act) (w' : World) : Prop :=
  ∃ l0 l1 l2 l3 l4 : Bool, listed = #[l0, l1, l2, l3, l4] ∧ a = { tmps := #[.agg #[v1, v2], .agg #[.int .i64 rc, .int .i64 rt, .int .i64 rs, .int .i64 rl], .pointer (some ⟨w.heap.size, 0, none⟩), .pointer (some ⟨w.heap.size + 1, 0, none⟩), .pointer (some ⟨w.heap.size + 1 + 1, 0, none⟩), .pointer (some ⟨w.heap.size + 1 + 1 + 1, 0, none⟩), .int .i64 0, .pointer (some ⟨db, 0, none⟩), .int .i64 0, .pointer (some ⟨sb, 0, none⟩), .tuple #[.agg #[.int .i64 zi, .int .i64 zx, .int .i64 zy, .int .i64 zf, .int .i64 zt, .int .i64 zl, .int .i64 zh, .int .i64 dr, .slice (some ⟨g, 0, none⟩) n cap], .int .i64 0], .agg #[v1, v2], .agg #[.int .i64 rc, .int .i64 rt, .int .i64 rs, .int .i64 rl], .tuple #[.agg #[.int .i64 zi, .int .i64 zx, .int .i64 zy, .int .i64 zf, .int .i64 zt, .int .i64 zl, .int .i64 zh, .int .i64 dr, .slice (some ⟨g, 0, none⟩) n cap], .int .i64 0], .agg #[.int .i64 zi, .int .i64 zx, .int .i64 zy, .int .i64 zf, .int .i64 zt, .int .i64 zl, .int .i64 zh, .int .i64 dr, .slice (some ⟨g, 0, none⟩) n cap], .int .i64 0, .int .i64 0, .bool false, undef, undef, undef, .agg #[.int .i64 zi, .int .i64 zx, .int .i64 zy, .int .i64 zf, .int .i64 zt, .int .i64 zl, .int .i64 zh, .int .i64 dr, .slice (some ⟨g, 0, none⟩) n cap], .pointer (some ⟨w.heap.size + 1, 1, none⟩), .int .i64 rt, .agg #[.int .i64 lo, .int .i64 hi], .agg #[.int .i64 rc, .int .i64 rt, .int .i64 rs, .int .i64 rl], .agg #[.int .i64 lo, .int .i64 hi], .int .i64 (2 * rl + hi - lo), .bool (decide (900 < 2 * rl + hi - lo)), undef, undef, pkIf l0 (.agg #[.int .i64 zi, .int .i64 zx, .int .i64 zy, .int .i64 zf, .int .i64 zt, .int .i64 zl, .int .i64 zh, .int .i64 dr, .slice (some ⟨g, 0, none⟩) n cap]) (undef), pkIf l1 (.agg #[.int .i64 lo, .int .i64 hi]) (undef)], defers := [] } ∧ Below w.heap.size w w' ∧ w'.heap[w.heap.size + 1 + 1]? = some (.cells (if l2 = true then #[.int .i64 zi, .int .i64 zx, .int .i64 zy, .int .i64 zf, .int .i64 zt, .int .i64 zl, .int .i64 zh, .int .i64 dr, .slice (some ⟨g, 0, none⟩) n cap] else #[.int .i64 0, .int .i64 0, .int .i64 0, .int .i64 0, .int .i64 0, .int .i64 0, .int .i64 0, .int .i64 0, .slice none 0 0]) 119 (0, 0)) ∧ w'.heap[w.heap.size + 1 + 1 + 1]? = some (.cells (if l3 = true then #[.int .i64 lo, .int .i64 hi] else #[.int .i64 0, .int .i64 0]) 36 (0, 0)) ∧ ∀ k, k ≠ w.heap.size + 1 + 1 → k ≠ w.heap.size + 1 + 1 + 1 → w'.heap[k]? = w3.heap[k]?
set_option maxRecDepth 100000 in
set_option maxHeartbeats 8000000 in
theorem zerosFor_any (v1 v2 : Value) (cs : List Ci) (ks : List Ck) (rc rt rs rl : Int) (w : World) (hv1 : CiRow w v1 cs) (hv2 : CkRow w v2 ks) (hl1 : cs.length ≤ 9223372036854775807) (hl2 : ks.length ≤ 9223372036854775807) :
    Calls Tryz.prog 67 #[.agg #[v1, v2], .agg #[.int .i64 rc, .int .i64 rt, .int .i64 rs, .int .i64 rl]] w fun e w' => ZfOut cs ks rc rt rs rl w e w' := by
  have HDF := Lib.hid (fun w' (h : Below w.heap.size w w') => dialFor_any v1 v2 cs ks rc rt rs rl w' (hv1.keep h) (hv2.keep h) hl1 hl2)
  have HFIT := Lib.hid (fun z => df_fit (cs := cs) (ks := ks) (rc := rc) (rt := rt) (rs := rs) (rl := rl) (z := z))
  have HTT := Lib.hid (fun (ho : CcOk cs ks) z h => dlL_ok ho (id := rc) (z := z) h)
  have HCI := Lib.hid (fun (ho : CcOk cs ks) z h => ciF_ok ho (id := rc) (z := z) h)
  have HLE := Lib.hid (fun (ho : CcOk cs ks) z => dlL_len ho z)
  have HE : Hid (zfE cs ks rc rt rs rl = _) := Lib.hid (zfE.eq_1 cs ks rc rt rs rl)
  obtain ⟨E, hE⟩ : ∃ E, zfE cs ks rc rt rs rl = E := ⟨_, rfl⟩
  obtain ⟨F, hF⟩ : ∃ F, dfE cs ks rc rt rs rl = F := ⟨_, rfl⟩
  unfold DfOut at HDF
  unfold ZfOut
  rw [hE, hF] at HE
  rw [hE]
  rw [hF] at HDF HFIT
  obtain ⟨lo, hlo⟩ : ∃ x, zrL cs ks rc rt = x := ⟨_, rfl⟩
  obtain ⟨hi, hhi⟩ : ∃ x, zrH cs ks rc rt = x := ⟨_, rfl⟩
  rw [hlo, hhi] at HE ⊢
  have HLO := Lib.hid hlo
  have HHI := Lib.hid hhi
  clear hE hF hv1 hv2 hlo hhi
  have HA := Lib.hid (fun W' => cells4 w #[v1, v2] #[.int .i64 rc, .int .i64 rt, .int .i64 rs, .int .i64 rl] #[.int .i64 0, .int .i64 0, .int .i64 0, .int .i64 0, .int .i64 0, .int .i64 0, .int .i64 0, .int .i64 0, .slice none 0 0] #[.int .i64 0, .int .i64 0] 25 50 119 36 (W := W'))
  have HB0 := Lib.hid (Below.refl ((((w.alloc (.cells #[v1, v2] 25)).alloc (.cells #[.int .i64 rc, .int .i64 rt, .int .i64 rs, .int .i64 rl] 50)).alloc (.cells #[.int .i64 0, .int .i64 0, .int .i64 0, .int .i64 0, .int .i64 0, .int .i64 0, .int .i64 0, .int .i64 0, .slice none 0 0] 119)).alloc (.cells #[.int .i64 0, .int .i64 0] 36)).heap.size ((((w.alloc (.cells #[v1, v2] 25)).alloc (.cells #[.int .i64 rc, .int .i64 rt, .int .i64 rs, .int .i64 rl] 50)).alloc (.cells #[.int .i64 0, .int .i64 0, .int .i64 0, .int .i64 0, .int .i64 0, .int .i64 0, .int .i64 0, .int .i64 0, .slice none 0 0] 119)).alloc (.cells #[.int .i64 0, .int .i64 0] 36)))
  obtain ⟨Z, hZ⟩ : ∃ Z, (((w.alloc (.cells #[v1, v2] 25)).alloc (.cells #[.int .i64 rc, .int .i64 rt, .int .i64 rs, .int .i64 rl] 50)).alloc (.cells #[.int .i64 0, .int .i64 0, .int .i64 0, .int .i64 0, .int .i64 0, .int .i64 0, .int .i64 0, .int .i64 0, .slice none 0 0] 119)).alloc (.cells #[.int .i64 0, .int .i64 0] 36) = Z := ⟨_, rfl⟩
  rw [hZ] at HA HB0
  have HZ := Lib.hid hZ
  clear hZ
  go_enter Tryz.func67, Tryz.ntmps67
  go_wp2_with fail
  rw [HZ.out]
  refine (HDF.out Z (HA.out Z HB0.out).2.2.2.2.2).mono ?_
  rintro e w1 ⟨hb1, hne, hz⟩
  have HB1 := Lib.hid hb1
  clear hb1
  by_cases h0 : F = 0
  case neg =>
    have HN : Hid (E = F) := Lib.hid (by rw [HE.out, if_neg h0])
    have h0' : (F != 0) = true := by simpa using h0
    have he := hne h0
    subst he
    have HNE := Lib.hid h0
    clear h0 hne hz
    unfold dl0
    have HBD := Lib.hid (HB1.out.alloc HB1.out.size (.cells #[.int .i64 0, .int .i64 0, .int .i64 0, .int .i64 0, .int .i64 0, .int .i64 0, .int .i64 0, .int .i64 0, .slice none 0 0] 119))
    obtain ⟨x1, x2, x3, x4, x5, x6⟩ := HA.out _ HBD.out
    have HX3 := Lib.hid x3
    have HX4 := Lib.hid x4
    have HX6 := Lib.hid x6
    have q0 := cellH x1 0
    have q1 := cellH x1 1
    have p0 := cellH x2 0
    have p1 := cellH x2 1
    have p2 := cellH x2 2
    have p3 := cellH x2 3
    have r0 := cellH x3 0
    have r1 := cellH x3 1
    have r2 := cellH x3 2
    have r3 := cellH x3 3
    have r4 := cellH x3 4
    have r5 := cellH x3 5
    have r6 := cellH x3 6
    have r7 := cellH x3 7
    have r8 := cellH x3 8
    have rf := freeH x3
    have s0 := cellH x4 0
    have s1 := cellH x4 1
    have sf := freeH x4
    simp only [List.getElem?_toArray, List.getElem?_cons_zero, List.getElem?_cons_succ] at q0 q1 p0 p1 p2 p3 r0 r1 r2 r3 r4 r5 r6 r7 r8 s0 s1
    clear x1 x2 x3 x4 x5 x6
    go_wp2_with fail

    obtain ⟨z1, z2⟩ := set9 HX3.out HX6.out (by omega) (.int .i64 0) (.int .i64 0) (.int .i64 0) (.int .i64 0) (.int .i64 0) (.int .i64 0) (.int .i64 0) (.int .i64 0) (.slice none 0 0)
    have z3 := (same9 (q := w.heap.size + 1 + 1) (g := w.heap.size + 1 + 1 + 1) (by omega) (.int .i64 0) (.int .i64 0) (.int .i64 0) (.int .i64 0) (.int .i64 0) (.int .i64 0) (.int .i64 0) (.int .i64 0) (.slice none 0 0)).trans HX4.out
    obtain ⟨z4, z5⟩ := set2 z3 z2 (by omega) (.int .i64 0) (.int .i64 0)
    have z6 := (heap_other _ (w.heap.size + 1 + 1 + 1) 1 (.int .i64 0) (w.heap.size + 1 + 1) (by omega)).trans ((heap_other _ (w.heap.size + 1 + 1 + 1) 0 (.int .i64 0) (w.heap.size + 1 + 1) (by omega)).trans z1)
    refine bodyPost_ret (res_cct Tryz.results67 _ _ (w.heap.size + 1 + 1) (w.heap.size + 1 + 1 + 1) 119 36 #[.int .i64 0, .int .i64 0, .int .i64 0, .int .i64 0, .int .i64 0, .int .i64 0, .int .i64 0, .int .i64 0, .slice none 0 0] #[.int .i64 0, .int .i64 0] (0, 0) (0, 0) _ _ ?_ ?_ z6 z4 Tryz.underlying119 rfl info_di9 Tryz.underlying36 rfl info_sp2) ?_ ?_
    · rfl
    · rfl
    · rfl
    exact ⟨z5, fun _ => by rw [HN.out]; rfl, fun h => absurd (HN.out.symm.trans h) HNE.out⟩
  obtain ⟨z, v, hzv, rfl, hr, hO⟩ := hz h0
  subst h0
  have HZV := Lib.hid hzv
  obtain ⟨ho, hs', hl', hzt⟩ := HFIT.out z rfl hzv
  have hzo := Ci.ok_iff.1 (HCI.out ho z hzv)
  have hbd := sp_bd (dr := z.dr) (l := dlL z ks) (t := rt) (by omega) (by omega) (HTT.out ho z hzv)
  obtain ⟨hq1, hq2⟩ := zr_of (ks := ks) (t := rt) hzv
  rw [← hq1, ← hq2] at hbd
  have HSP : Hid (∀ w', Below w1.heap.size w1 w' → Calls Tryz.prog 70 #[dlV z v, .int .i64 rt] w' fun e w'' => e = .returned (.agg #[.int .i64 (zrL cs ks rc rt), .int .i64 (zrH cs ks rc rt)]) ∧ Below w'.heap.size w' w'') := Lib.hid (by
    rw [hq1, hq2]
    exact fun w' hw => span_any z v (dlL z ks) rt w' (hr.keep hw) (by have := HLE.out ho z; omega) (by omega) (by omega) (HTT.out ho z hzv))
  rw [HLO.out, HHI.out] at HSP hbd
  have HR := Lib.hid hr
  have HTO := Lib.hid hO
  have HE2 : Hid (E = if 900 < 2 * rl + hi - lo then 50 else 0) := Lib.hid (by rw [HE.out, if_pos rfl])
  have HOP := Lib.hid (fun w' => opening_any rc rt rs rl lo hi w' (by omega) hbd.1 hbd.2)
  have HBD2 := Lib.hid (show 0 ≤ 2 * rl + hi - lo + 2000 ∧ 2 * rl + hi - lo ≤ 2000 by omega)
  clear hq1 hq2 hbd hzt hl' hs' ho hzo hne hz HFIT
  obtain ⟨g, n, cap, C, rfl, hC⟩ := hO
  obtain ⟨zi, zx, zy, zf, zt, zl, zh, dr⟩ := z
  unfold dlV at HSP ⊢
  simp only at HSP ⊢
  have hbx : Below w1.heap.size w1 (w1.alloc (.cells #[.int .i64 zi, .int .i64 zx, .int .i64 zy, .int .i64 zf, .int .i64 zt, .int .i64 zl, .int .i64 zh, .int .i64 dr, .slice (some ⟨g, 0, none⟩) n cap] 119)) := (Below.refl _ w1).alloc (Nat.le_refl _) _
  have HBD := Lib.hid (HB1.out.trans (hbx.mono HB1.out.size))
  have HSP2 := Lib.hid (HSP.out _ hbx)
  have HR2 := Lib.hid (HR.out.keep hbx)
  have HTO2 := Lib.hid (HTO.out.keep hbx)
  have HW : Hid ((w1.alloc (.cells #[.int .i64 zi, .int .i64 zx, .int .i64 zy, .int .i64 zf, .int .i64 zt, .int .i64 zl, .int .i64 zh, .int .i64 dr, .slice (some ⟨g, 0, none⟩) n cap] 119)).heap[w1.heap.size]? = some (.cells #[.int .i64 zi, .int .i64 zx, .int .i64 zy, .int .i64 zf, .int .i64 zt, .int .i64 zl, .int .i64 zh, .int .i64 dr, .slice (some ⟨g, 0, none⟩) n cap] 119 (0, 0))) := Lib.hid (heap_alloc_new _ _)
  obtain ⟨X1, hX1⟩ : ∃ X, w1.alloc (.cells #[.int .i64 zi, .int .i64 zx, .int .i64 zy, .int .i64 zf, .int .i64 zt, .int .i64 zl, .int .i64 zh, .int .i64 dr, .slice (some ⟨g, 0, none⟩) n cap] 119) = X := ⟨_, rfl⟩
  obtain ⟨db, hdb⟩ : ∃ x, w1.heap.size = x := ⟨_, rfl⟩
  rw [hX1] at HBD HSP2 HW HR2 HTO2
  rw [hdb] at HW
  have HDB1 : Hid (w.heap.size + 1 + 1 + 1 < db) := Lib.hid (by have := (HA.out _ HB1.out).2.2.2.2.1; omega)
  clear hbx HSP HR HTO hr hC
  obtain ⟨x1, x2, x3, x4, x5, x6⟩ := HA.out _ HBD.out
  have HX3 := Lib.hid x3
  have HX4 := Lib.hid x4
  have HX6 := Lib.hid x6
  have q0 := cellH x1 0
  have q1 := cellH x1 1
  have p0 := cellH x2 0
  have p1 := cellH x2 1
  have p2 := cellH x2 2
  have p3 := cellH x2 3
  have r0 := cellH x3 0
  have r1 := cellH x3 1
  have r2 := cellH x3 2
  have r3 := cellH x3 3
  have r4 := cellH x3 4
  have r5 := cellH x3 5
  have r6 := cellH x3 6
  have r7 := cellH x3 7
  have r8 := cellH x3 8
  have rf := freeH x3
  have s0 := cellH x4 0
  have s1 := cellH x4 1
  have sf := freeH x4
  simp only [List.getElem?_toArray, List.getElem?_cons_zero, List.getElem?_cons_succ] at q0 q1 p0 p1 p2 p3 r0 r1 r2 r3 r4 r5 r6 r7 r8 s0 s1
  clear x1 x2 x3 x4 x5 x6
  have d0 := cellH HW.out 0
  have d1 := cellH HW.out 1
  have d2 := cellH HW.out 2
  have d3 := cellH HW.out 3
  have d4 := cellH HW.out 4
  have d5 := cellH HW.out 5
  have d6 := cellH HW.out 6
  have d7 := cellH HW.out 7
  have d8 := cellH HW.out 8
  simp only [List.getElem?_toArray, List.getElem?_cons_zero, List.getElem?_cons_succ] at d0 d1 d2 d3 d4 d5 d6 d7 d8
  go_wp2_with fail
  clear hX1
  refine HSP2.out.mono ?_
  rintro e w2 ⟨rfl, hb2⟩
  have HW2 := Lib.hid ((hb2.block _ (Array.getElem?_eq_some_iff.1 HW.out).1).trans HW.out)
  have hby := hb2.trans (((Below.refl w2.heap.size w2).alloc (Nat.le_refl _) (.cells #[.int .i64 lo, .int .i64 hi] 36)).mono hb2.size)
  have HBE := Lib.hid (HBD.out.trans (hby.mono HBD.out.size))
  have HR3 := Lib.hid (HR2.out.keep hby)
  have HTO3 := Lib.hid (HTO2.out.keep hby)
  have HW3 := Lib.hid ((hby.block _ (Array.getElem?_eq_some_iff.1 HW.out).1).trans HW.out)
  have HSX : Hid ((w2.alloc (.cells #[.int .i64 lo, .int .i64 hi] 36)).heap[w2.heap.size]? = some (.cells #[.int .i64 lo, .int .i64 hi] 36 (0, 0))) := Lib.hid (heap_alloc_new _ _)
  obtain ⟨X2, hX2⟩ : ∃ X, w2.alloc (.cells #[.int .i64 lo, .int .i64 hi] 36) = X := ⟨_, rfl⟩
  obtain ⟨sb, hsb⟩ : ∃ x, w2.heap.size = x := ⟨_, rfl⟩
  have HDB0 : Hid (w.heap.size + 1 + 1 + 1 < db ∧ w.heap.size + 1 + 1 + 1 < sb) := Lib.hid ⟨HDB1.out, by have := HDB1.out; have := (Array.getElem?_eq_some_iff.1 HW2.out).1; omega⟩
  rw [hX2] at HBE HW3 HR3 HTO3 HSX
  rw [hsb] at HSX
  clear hby hb2 HW HW2 HR2 HTO2
  clear q0 q1 p0 p1 p2 p3 r0 r1 r2 r3 r4 r5 r6 r7 r8 rf s0 s1 sf HX3 HX4 HX6
  clear d0 d1 d2 d3 d4 d5 d6 d7 d8
  obtain ⟨x1, x2, x3, x4, x5, x6⟩ := HA.out _ HBE.out
  have HX3 := Lib.hid x3
  have HX4 := Lib.hid x4
  have HX6 := Lib.hid x6
  have q0 := cellH x1 0
  have q1 := cellH x1 1
  have p0 := cellH x2 0
  have p1 := cellH x2 1
  have p2 := cellH x2 2
  have p3 := cellH x2 3
  have r0 := cellH x3 0
  have r1 := cellH x3 1
  have r2 := cellH x3 2
  have r3 := cellH x3 3
  have r4 := cellH x3 4
  have r5 := cellH x3 5
  have r6 := cellH x3 6
  have r7 := cellH x3 7
  have r8 := cellH x3 8
  have rf := freeH x3
  have s0 := cellH x4 0
  have s1 := cellH x4 1
  have sf := freeH x4
  simp only [List.getElem?_toArray, List.getElem?_cons_zero, List.getElem?_cons_succ] at q0 q1 p0 p1 p2 p3 r0 r1 r2 r3 r4 r5 r6 r7 r8 s0 s1
  clear x1 x2 x3 x4 x5 x6
  have d0 := cellH HW3.out 0
  have d1 := cellH HW3.out 1
  have d2 := cellH HW3.out 2
  have d3 := cellH HW3.out 3
  have d4 := cellH HW3.out 4
  have d5 := cellH HW3.out 5
  have d6 := cellH HW3.out 6
  have d7 := cellH HW3.out 7
  have d8 := cellH HW3.out 8
  have y0 := cellH HSX.out 0
  have y1 := cellH HSX.out 1
  simp only [List.getElem?_toArray, List.getElem?_cons_zero, List.getElem?_cons_succ] at d0 d1 d2 d3 d4 d5 d6 d7 d8 y0 y1
  go_wp2_with fail
  clear hX2
  refine (HOP.out _).mono ?_
  rintro e w3 ⟨rfl, hb3⟩
  have HBF := Lib.hid (HBE.out.trans (hb3.mono HBE.out.size))
  have HR4 := Lib.hid (HR3.out.keep hb3)
  have HTO4 := Lib.hid (HTO3.out.keep hb3)
  have HW4 := Lib.hid ((hb3.block _ (Array.getElem?_eq_some_iff.1 HW3.out).1).trans HW3.out)
  have HSX4 := Lib.hid ((hb3.block _ (Array.getElem?_eq_some_iff.1 HSX.out).1).trans HSX.out)
  clear hb3 HW3 HSX HR3 HTO3
  clear q0 q1 p0 p1 p2 p3 r0 r1 r2 r3 r4 r5 r6 r7 r8 rf s0 s1 sf HX3 HX4 HX6
  clear d0 d1 d2 d3 d4 d5 d6 d7 d8 y0 y1
  obtain ⟨x1, x2, x3, x4, x5, x6⟩ := HA.out _ HBF.out
  have HX3 := Lib.hid x3
  have HX4 := Lib.hid x4
  have HX6 := Lib.hid x6
  have q0 := cellH x1 0
  have q1 := cellH x1 1
  have p0 := cellH x2 0
  have p1 := cellH x2 1
  have p2 := cellH x2 2
  have p3 := cellH x2 3
  have r0 := cellH x3 0
  have r1 := cellH x3 1
  have r2 := cellH x3 2
  have r3 := cellH x3 3
  have r4 := cellH x3 4
  have r5 := cellH x3 5
  have r6 := cellH x3 6
  have r7 := cellH x3 7
  have r8 := cellH x3 8
  have rf := freeH x3
  have s0 := cellH x4 0
  have s1 := cellH x4 1
  have sf := freeH x4
  simp only [List.getElem?_toArray, List.getElem?_cons_zero, List.getElem?_cons_succ] at q0 q1 p0 p1 p2 p3 r0 r1 r2 r3 r4 r5 r6 r7 r8 s0 s1
  clear x1 x2 x3 x4 x5 x6
  have d0 := cellH HW4.out 0
  have d1 := cellH HW4.out 1
  have d2 := cellH HW4.out 2
  have d3 := cellH HW4.out 3
  have d4 := cellH HW4.out 4
  have d5 := cellH HW4.out 5
  have d6 := cellH HW4.out 6
  have d7 := cellH HW4.out 7
  have d8 := cellH HW4.out 8
  have y0 := cellH HSX4.out 0
  have y1 := cellH HSX4.out 1
  simp only [List.getElem?_toArray, List.getElem?_cons_zero, List.getElem?_cons_succ] at d0 d1 d2 d3 d4 d5 d6 d7 d8 y0 y1
  by_cases hw : 900 < 2 * rl + hi - lo
  · have HN : Hid (E = 50) := Lib.hid (by rw [HE2.out, if_pos hw])
    go_wp2_with fail
    obtain ⟨z1, z2⟩ := set9 HX3.out HX6.out (by omega) (.int .i64 0) (.int .i64 0) (.int .i64 0) (.int .i64 0) (.int .i64 0) (.int .i64 0) (.int .i64 0) (.int .i64 0) (.slice none 0 0)
    have z3 := (same9 (q := w.heap.size + 1 + 1) (g := w.heap.size + 1 + 1 + 1) (by omega) (.int .i64 0) (.int .i64 0) (.int .i64 0) (.int .i64 0) (.int .i64 0) (.int .i64 0) (.int .i64 0) (.int .i64 0) (.slice none 0 0)).trans HX4.out
    obtain ⟨z4, z5⟩ := set2 z3 z2 (by omega) (.int .i64 0) (.int .i64 0)
    have z6 := (heap_other _ (w.heap.size + 1 + 1 + 1) 1 (.int .i64 0) (w.heap.size + 1 + 1) (by omega)).trans ((heap_other _ (w.heap.size + 1 + 1 + 1) 0 (.int .i64 0) (w.heap.size + 1 + 1) (by omega)).trans z1)
    refine bodyPost_ret (res_cct Tryz.results67 _ _ (w.heap.size + 1 + 1) (w.heap.size + 1 + 1 + 1) 119 36 #[.int .i64 0, .int .i64 0, .int .i64 0, .int .i64 0, .int .i64 0, .int .i64 0, .int .i64 0, .int .i64 0, .slice none 0 0] #[.int .i64 0, .int .i64 0] (0, 0) (0, 0) _ _ ?_ ?_ z6 z4 Tryz.underlying119 rfl info_di9 Tryz.underlying36 rfl info_sp2) ?_ ?_
    · rfl
    · rfl
    · rfl
    exact ⟨z5, fun _ => by rw [HN.out]; rfl, fun h => absurd h (by rw [HN.out]; decide)⟩
  · have HN : Hid (E = 0) := Lib.hid (by rw [HE2.out, if_neg hw])
    go_wp2_with fail
    have HDB := Lib.hid HDB0.out
    refine wp_region_invn (by kernel_rfl) (RzI w w3 v1 v2 rc rt rs rl lo hi zi zx zy zf zt zl zh dr g n cap db sb) ⟨false, false, false, false, false, rfl, rfl, HX6.out.drew, HX3.out, HX4.out, fun _ _ _ => rfl⟩ ?hend ?hstep
    case hstep =>
      rintro listed a w' i ⟨l0, l1, l2, l3, l4, rfl, rfl, hb, h1, h2, h3⟩ hi
      obtain ⟨hf, o', ho', hp⟩ := mem_ready.1 hi
      have hin : i < 5 := (Array.getElem?_eq_some_iff.1 ho').1
      have hd := (h3 db (by have := HDB.out; omega) (by have := HDB.out; omega)).trans HW4.out
      have hsx := (h3 sb (by have := HDB.out; omega) (by have := HDB.out; omega)).trans HSX4.out
      clear hi d0 d1 d2 d3 d4 d5 d6 d7 d8 y0 y1 q0 q1 p0 p1 p2 p3 r0 r1 r2 r3 r4 r5 r6 r7 r8 rf s0 s1 sf
      match i, hin with
      | 0, _ =>
        obtain rfl : l0 = false := by simpa using hf
        clear hp ho'
        have d0 := cellH hd 0
        have d1 := cellH hd 1
        have d2 := cellH hd 2
        have d3 := cellH hd 3
        have d4 := cellH hd 4
        have d5 := cellH hd 5
        have d6 := cellH hd 6
        have d7 := cellH hd 7
        have d8 := cellH hd 8
        simp only [List.getElem?_toArray, List.getElem?_cons_zero, List.getElem?_cons_succ] at d0 d1 d2 d3 d4 d5 d6 d7 d8
        unfold wpOp
        simp only [pkIf_true]
        go_simp
        exact .inl ⟨true, l1, l2, l3, l4, rfl, rfl, hb, h1, h2, h3⟩
      | 1, _ =>
        obtain rfl : l1 = false := by simpa using hf
        clear hp ho'
        have y0 := cellH hsx 0
        have y1 := cellH hsx 1
        simp only [List.getElem?_toArray, List.getElem?_cons_zero, List.getElem?_cons_succ] at y0 y1
        unfold wpOp
        simp only [pkIf_true]
        go_simp
        exact .inl ⟨l0, true, l2, l3, l4, rfl, rfl, hb, h1, h2, h3⟩
      | 2, _ =>
        obtain rfl : l2 = false := by simpa using hf
        cases ho'
        obtain rfl : l0 = true := by simpa using hp ⟨0, .data⟩ (by simp) rfl
        clear hp
        simp only [Bool.false_eq_true, if_false] at h1
        have r0 := cellH h1 0
        have r1 := cellH h1 1
        have r2 := cellH h1 2
        have r3 := cellH h1 3
        have r4 := cellH h1 4
        have r5 := cellH h1 5
        have r6 := cellH h1 6
        have r7 := cellH h1 7
        have r8 := cellH h1 8
        have rf := freeH h1
        simp only [List.getElem?_toArray, List.getElem?_cons_zero, List.getElem?_cons_succ] at r0 r1 r2 r3 r4 r5 r6 r7 r8
        obtain ⟨z1, z2⟩ := set9 h1 hb (by omega) (.int .i64 zi) (.int .i64 zx) (.int .i64 zy) (.int .i64 zf) (.int .i64 zt) (.int .i64 zl) (.int .i64 zh) (.int .i64 dr) (.slice (some ⟨g, 0, none⟩) n cap)
        have hs := fun k hk => same9 (W := w') (q := w.heap.size + 1 + 1) (g := k) hk (.int .i64 zi) (.int .i64 zx) (.int .i64 zy) (.int .i64 zf) (.int .i64 zt) (.int .i64 zl) (.int .i64 zh) (.int .i64 dr) (.slice (some ⟨g, 0, none⟩) n cap)
        unfold wpOp
        simp only [pkIf_true]
        go_simp
        exact .inl ⟨true, l1, true, l3, l4, rfl, rfl, z2, z1, (hs _ (by omega)).trans h2, fun k hk1 hk2 => (hs k hk1).trans (h3 k hk1 hk2)⟩
      | 3, _ =>
        obtain rfl : l3 = false := by simpa using hf
        cases ho'
        obtain rfl : l1 = true := by simpa using hp ⟨1, .data⟩ (by simp) rfl
        clear hp
        simp only [Bool.false_eq_true, if_false] at h2
        have s0 := cellH h2 0
        have s1 := cellH h2 1
        have sf := freeH h2
        simp only [List.getElem?_toArray, List.getElem?_cons_zero, List.getElem?_cons_succ] at s0 s1
        obtain ⟨z1, z2⟩ := set2 h2 hb (by omega) (.int .i64 lo) (.int .i64 hi)
        have hs : ∀ k, k ≠ w.heap.size + 1 + 1 + 1 → ((w'.setCell ⟨w.heap.size + 1 + 1 + 1, 0, none⟩ (.int .i64 lo)).setCell ⟨w.heap.size + 1 + 1 + 1, 1, none⟩ (.int .i64 hi)).heap[k]? = w'.heap[k]? := fun k hk => (heap_other _ _ 1 _ k hk).trans (heap_other _ _ 0 _ k hk)
        unfold wpOp
        simp only [pkIf_true]
        go_simp
        exact .inl ⟨l0, true, l2, true, l4, rfl, rfl, z2, (hs _ (by omega)).trans h1, z1, fun k hk1 hk2 => (hs k hk2).trans (h3 k hk1 hk2)⟩
      | 4, _ =>
        obtain rfl : l4 = false := by simpa using hf
        clear hp ho'
        unfold wpOp
        simp only [pkIf_true]
        go_simp
        exact .inl ⟨l0, l1, l2, l3, true, rfl, rfl, hb, h1, h2, h3⟩
    rintro listed a w' ⟨l0, l1, l2, l3, l4, rfl, rfl, hb, h1, h2, h3⟩ hall
    have hal0 := ready_all (by kernel_rfl) rfl hall 5
    have hal : l0 = true ∧ l1 = true ∧ l2 = true ∧ l3 = true ∧ l4 = true := ⟨hal0 0 (by decide) (by simp), hal0 1 (by decide) (by simp), hal0 2 (by decide) (by simp), hal0 3 (by decide) (by simp), hal0 4 (by decide) (by simp)⟩
    obtain ⟨rfl, rfl, rfl, rfl, rfl⟩ := hal
    simp only [if_true] at h1 h2
    simp only [pkIf_true]
    have HB7 := Lib.hid hb
    have H17 := Lib.hid h1
    have H27 := Lib.hid h2
    have HO := Lib.hid h3
    clear hall hal0 hb h1 h2 h3 d0 d1 d2 d3 d4 d5 d6 d7 d8 y0 y1 q0 q1 p0 p1 p2 p3 r0 r1 r2 r3 r4 r5 r6 r7 r8 rf s0 s1 sf
    go_wp2_with fail
    refine bodyPost_ret (res_cct Tryz.results67 _ _ (w.heap.size + 1 + 1) (w.heap.size + 1 + 1 + 1) 119 36 #[.int .i64 zi, .int .i64 zx, .int .i64 zy, .int .i64 zf, .int .i64 zt, .int .i64 zl, .int .i64 zh, .int .i64 dr, .slice (some ⟨g, 0, none⟩) n cap] #[.int .i64 lo, .int .i64 hi] (0, 0) (0, 0) _ _ ?_ ?_ H17.out H27.out Tryz.underlying119 rfl info_di9 Tryz.underlying36 rfl info_sp2) ?_ ?_
    · rfl
    · rfl
    · rfl
    have z5 := HB7.out
    obtain ⟨g', n', cap', C', hv', hC'⟩ := HTO4.out
    cases hv'
    have hne : g ≠ w.heap.size + 1 + 1 := by
      rintro rfl
      have h1 := hC'.symm.trans HX3.out
      simp at h1
    have hne2 : g ≠ w.heap.size + 1 + 1 + 1 := by
      rintro rfl
      have h1 := hC'.symm.trans HX4.out
      simp at h1
    have hs := HO.out g hne hne2
    exact ⟨z5, fun h => absurd HN.out h, fun _ => ⟨_, _, HZV.out, rfl, HR4.out.same hs, ⟨g, n, cap, C', rfl, hs.trans hC'⟩⟩⟩
end Go.Proofs.YtebdboacmeafaaaGreat
/- Package circle: Wedge. -/
set_option linter.unusedVariables false
set_option linter.unusedSimpArgs false
namespace Go.Proofs.YtebdboacmeafaaaGreat
open Go Go.RowKit

/-- What the wedge of a reading is. -/
def wgV (cs : List Ci) (ks : List Ck) (rc rt rs rl : Int) : Value :=
  if zfE cs ks rc rt rs rl = 0 then .tuple #[.agg #[.int .i64 ((rs - rl - zrH cs ks rc rt) % 3600), .int .i64 ((rs + rl - zrL cs ks rc rt) % 3600)], .int .i64 0] else .tuple #[.agg #[.int .i64 0, .int .i64 0], .int .i64 (zfE cs ks rc rt rs rl)]
theorem zf_fit {cs : List Ci} {ks : List Ck} {rc rt rs rl : Int} {z : Ci} (h : zfE cs ks rc rt rs rl = 0) (hz : ciF cs rc = some z) : (0 ≤ rs ∧ rs ≤ 3599) ∧ (1 ≤ rl ∧ rl ≤ 100) ∧ (-300 ≤ zrL cs ks rc rt ∧ zrL cs ks rc rt ≤ 300) ∧ -300 ≤ zrH cs ks rc rt ∧ zrH cs ks rc rt ≤ 300 := by
  unfold zfE at h
  split at h
  · rename_i h0
    obtain ⟨ho, h1, h2, h3⟩ := df_fit h0 hz
    have hzo := Ci.ok_iff.1 (ciF_ok ho hz)
    have hb := sp_bd (dr := z.dr) (l := dlL z ks) (t := rt) (by omega) (by omega) (dlL_ok ho hz)
    obtain ⟨e1, e2⟩ := zr_of (ks := ks) (t := rt) hz
    rw [e1, e2]
    exact ⟨h1, h2, hb⟩
  · rename_i h0; exact absurd h h0
set_option maxRecDepth 100000 in
set_option maxHeartbeats 8000000 in
theorem Wedge_any (v1 v2 : Value) (cs : List Ci) (ks : List Ck) (rc rt rs rl : Int) (w : World) (hv1 : CiRow w v1 cs) (hv2 : CkRow w v2 ks) (hl1 : cs.length ≤ 9223372036854775807) (hl2 : ks.length ≤ 9223372036854775807) :
    Calls Tryz.prog 33 #[.agg #[v1, v2], .agg #[.int .i64 rc, .int .i64 rt, .int .i64 rs, .int .i64 rl]] w fun e w' => e = .returned (wgV cs ks rc rt rs rl) ∧ Below w.heap.size w w' := by
  have HZF := Lib.hid (fun w' (h : Below w.heap.size w w') => zerosFor_any v1 v2 cs ks rc rt rs rl w' (hv1.keep h) (hv2.keep h) hl1 hl2)
  have HFIT := Lib.hid (fun z => zf_fit (cs := cs) (ks := ks) (rc := rc) (rt := rt) (rs := rs) (rl := rl) (z := z))
  have HV : Hid (wgV cs ks rc rt rs rl = _) := Lib.hid (wgV.eq_1 cs ks rc rt rs rl)
  obtain ⟨V, hV⟩ : ∃ V, wgV cs ks rc rt rs rl = V := ⟨_, rfl⟩
  obtain ⟨E, hE⟩ : ∃ E, zfE cs ks rc rt rs rl = E := ⟨_, rfl⟩
  obtain ⟨lo, hlo⟩ : ∃ x, zrL cs ks rc rt = x := ⟨_, rfl⟩
  obtain ⟨hi, hhi⟩ : ∃ x, zrH cs ks rc rt = x := ⟨_, rfl⟩
  unfold ZfOut at HZF
  rw [hV, hE, hlo, hhi] at HV
  rw [hV]
  rw [hE, hlo, hhi] at HZF HFIT
  clear hV hE hv1 hv2 hlo hhi
  have HA := Lib.hid (fun W' => cells3 w #[v1, v2] #[.int .i64 rc, .int .i64 rt, .int .i64 rs, .int .i64 rl] #[.int .i64 0, .int .i64 0] 25 50 77 (W := W'))
  have HB0 := Lib.hid (Below.refl (((w.alloc (.cells #[v1, v2] 25)).alloc (.cells #[.int .i64 rc, .int .i64 rt, .int .i64 rs, .int .i64 rl] 50)).alloc (.cells #[.int .i64 0, .int .i64 0] 77)).heap.size (((w.alloc (.cells #[v1, v2] 25)).alloc (.cells #[.int .i64 rc, .int .i64 rt, .int .i64 rs, .int .i64 rl] 50)).alloc (.cells #[.int .i64 0, .int .i64 0] 77)))
  obtain ⟨Z, hZ⟩ : ∃ Z, ((w.alloc (.cells #[v1, v2] 25)).alloc (.cells #[.int .i64 rc, .int .i64 rt, .int .i64 rs, .int .i64 rl] 50)).alloc (.cells #[.int .i64 0, .int .i64 0] 77) = Z := ⟨_, rfl⟩
  rw [hZ] at HA HB0
  have HZ := Lib.hid hZ
  clear hZ
  go_enter Tryz.func33, Tryz.ntmps33
  go_wp2_with fail
  rw [HZ.out]
  refine (HZF.out Z (HA.out Z HB0.out).2.2.2.2).mono ?_
  rintro e w1 ⟨hb1, hne, hz⟩
  have HB1 := Lib.hid hb1
  clear hb1
  by_cases h0 : E = 0
  case neg =>
    have HN : Hid (V = .tuple #[.agg #[.int .i64 0, .int .i64 0], .int .i64 E]) := Lib.hid (by rw [HV.out, if_neg h0])
    have h0' : (E != 0) = true := by simpa using h0
    have he := hne h0
    subst he
    clear h0 hne hz
    unfold dl0
    have HBD := Lib.hid (HB1.out.trans ((two_cells w1 #[.int .i64 0, .int .i64 0, .int .i64 0, .int .i64 0, .int .i64 0, .int .i64 0, .int .i64 0, .int .i64 0, .slice none 0 0] #[.int .i64 0, .int .i64 0] 119 36 (Below.refl _ _)).2.2.2.mono HB1.out.size))
    obtain ⟨x1, x2, x3, x4, x5⟩ := HA.out _ HBD.out
    have HX3 := Lib.hid x3
    have HX5 := Lib.hid x5
    have q0 := cellH x1 0
    have q1 := cellH x1 1
    have p0 := cellH x2 0
    have p1 := cellH x2 1
    have p2 := cellH x2 2
    have p3 := cellH x2 3
    have r0 := cellH x3 0
    have r1 := cellH x3 1
    have rf := freeH x3
    simp only [List.getElem?_toArray, List.getElem?_cons_zero, List.getElem?_cons_succ] at q0 q1 p0 p1 p2 p3 r0 r1
    clear x1 x2 x3 x4 x5
    go_wp2_with fail
    obtain ⟨z1, z2⟩ := set2 HX3.out HX5.out (by omega) (.int .i64 0) (.int .i64 0)
    refine bodyPost_ret (res_ct Tryz.results33 _ _ (w.heap.size + 1 + 1) 77 #[.int .i64 0, .int .i64 0] (0, 0) _ ?_ z1 Tryz.underlying77 rfl info_we2) ?_ ?_
    · rfl
    · rfl
    exact ⟨by rw [HN.out]; rfl, z2⟩
  obtain ⟨z, v, hzv, rfl, hr, hO⟩ := hz h0
  subst h0
  obtain ⟨hs, hl, hbl, hbh⟩ := HFIT.out z rfl hzv
  have HN : Hid (V = .tuple #[.agg #[.int .i64 ((rs - rl - hi) % 3600), .int .i64 ((rs + rl - lo) % 3600)], .int .i64 0]) := Lib.hid (by rw [HV.out, if_pos rfl])
  have HT1 := Lib.hid (fun w' => qturn_any (rs - rl - hi) w')
  have HT2 := Lib.hid (fun w' => qturn_any (rs + rl - lo) w')
  have e1 : IntKind.i64.wrap (rs - rl) = rs - rl := IntWalk.i64_in _ (by omega)
  have e2 : IntKind.i64.wrap (rs - rl - hi) = rs - rl - hi := IntWalk.i64_in _ (by omega)
  have e3 : IntKind.i64.wrap (rs + rl) = rs + rl := IntWalk.i64_in _ (by omega)
  have e4 : IntKind.i64.wrap (rs + rl - lo) = rs + rl - lo := IntWalk.i64_in _ (by omega)
  obtain ⟨g, n, cap, C, rfl, hC⟩ := hO
  obtain ⟨zi, zx, zy, zf, zt, zl, zh, dr⟩ := z
  have htc := two_cells w1 #[.int .i64 zi, .int .i64 zx, .int .i64 zy, .int .i64 zf, .int .i64 zt, .int .i64 zl, .int .i64 zh, .int .i64 dr, .slice (some ⟨g, 0, none⟩) n cap] #[.int .i64 lo, .int .i64 hi] 119 36 (Below.refl _ _)
  have HBD := Lib.hid (HB1.out.trans (htc.2.2.2.mono HB1.out.size))
  have HW := Lib.hid htc.2.1
  obtain ⟨X1, hX1⟩ : ∃ X, (w1.alloc (.cells #[.int .i64 zi, .int .i64 zx, .int .i64 zy, .int .i64 zf, .int .i64 zt, .int .i64 zl, .int .i64 zh, .int .i64 dr, .slice (some ⟨g, 0, none⟩) n cap] 119)).alloc (.cells #[.int .i64 lo, .int .i64 hi] 36) = X := ⟨_, rfl⟩
  obtain ⟨sb, hsb⟩ : ∃ x, w1.heap.size = x := ⟨_, rfl⟩
  rw [hX1] at HBD HW
  rw [hsb] at HW
  clear htc hC
  unfold dlV
  clear hs hl hbl hbh hzv hr hne hz HFIT HZF
  obtain ⟨x1, x2, x3, x4, x5⟩ := HA.out _ HBD.out
  have HX3 := Lib.hid x3
  have HX5 := Lib.hid x5
  have q0 := cellH x1 0
  have q1 := cellH x1 1
  have p0 := cellH x2 0
  have p1 := cellH x2 1
  have p2 := cellH x2 2
  have p3 := cellH x2 3
  have r0 := cellH x3 0
  have r1 := cellH x3 1
  have rf := freeH x3
  simp only [List.getElem?_toArray, List.getElem?_cons_zero, List.getElem?_cons_succ] at q0 q1 p0 p1 p2 p3 r0 r1
  clear x1 x2 x3 x4 x5
  have y0 := cellH HW.out 0
  have y1 := cellH HW.out 1
  simp only [List.getElem?_toArray, List.getElem?_cons_zero, List.getElem?_cons_succ] at y0 y1
  go_wp2_with fail
  clear hX1
  have HRY : Hid (∀ w', Below X1.heap.size X1 w' → w'.cell? ⟨w.heap.size + 1, 2, none⟩ = some (.int .i64 rs) ∧ w'.cell? ⟨w.heap.size + 1, 3, none⟩ = some (.int .i64 rl) ∧ w'.cell? ⟨sb + 1, 0, none⟩ = some (.int .i64 lo) ∧ w'.cell? ⟨sb + 1, 1, none⟩ = some (.int .i64 hi)) := Lib.hid (fun w' h => by
    have x2 := (HA.out w' (HBD.out.trans (h.mono HBD.out.size))).2.1
    have x3 := (h.block _ (Array.getElem?_eq_some_iff.1 HW.out).1).trans HW.out
    exact ⟨cellH x2 2, cellH x2 3, cellH x3 0, cellH x3 1⟩)
  have C1 : Hid (∀ w', Below X1.heap.size X1 w' → Calls Tryz.prog 93 #[.int .i64 (rs - rl - hi)] w' fun e w'' => e = .returned (.int .i64 ((rs - rl - hi) % 3600)) ∧ Below X1.heap.size X1 w'') := Lib.hid (fun w' h => (HT1.out w').mono fun e w'' ⟨he, hw⟩ => ⟨he, by rw [hw]; exact h⟩)
  have C2 : Hid (∀ w', Below X1.heap.size X1 w' → Calls Tryz.prog 93 #[.int .i64 (rs + rl - lo)] w' fun e w'' => e = .returned (.int .i64 ((rs + rl - lo) % 3600)) ∧ Below X1.heap.size X1 w'') := Lib.hid (fun w' h => (HT2.out w').mono fun e w'' ⟨he, hw⟩ => ⟨he, by rw [hw]; exact h⟩)
  clear q0 q1 p0 p1 p2 p3 r0 r1 rf HX3 HX5
  clear y0 y1
  refine wp_region_turn 19 (fun _ w' => Below X1.heap.size X1 w') (by kernel_rfl) (by kernel_rfl) ((Below.refl _ X1).drew) ?_
  simp only [List.take_succ_cons, List.take_zero, List.drop_succ_cons, List.drop_zero]
  iterate 19
    (first
      | (apply turnC_step (by rfl); (intro w' hw'; obtain ⟨q0, q1, q2, q3⟩ := HRY.out w' hw'; go_simp; first | with_reducible exact ⟨hw', rfl⟩ | with_reducible exact rfl | with_reducible exact ⟨hw', congrArg (Value.int .i64) e1⟩ | with_reducible exact ⟨hw', congrArg (Value.int .i64) e2⟩ | with_reducible exact ⟨hw', congrArg (Value.int .i64) e3⟩ | with_reducible exact ⟨hw', congrArg (Value.int .i64) e4⟩))
      | (apply turnC_step (by rfl); (intro w' hw'; go_simp; first | with_reducible exact C1.out w' hw' | with_reducible exact C2.out w' hw')))
    simp only [Act.put, List.setIfInBounds_toArray, List.set_cons_succ, List.set_cons_zero]
  intro listed w5 _ hw5
  have HB5 := Lib.hid (HBD.out.trans (hw5.mono HBD.out.size))
  clear hw5
  obtain ⟨x1, x2, x3, x4, x5⟩ := HA.out _ HB5.out
  have HX3 := Lib.hid x3
  have HX5 := Lib.hid x5
  have q0 := cellH x1 0
  have q1 := cellH x1 1
  have p0 := cellH x2 0
  have p1 := cellH x2 1
  have p2 := cellH x2 2
  have p3 := cellH x2 3
  have r0 := cellH x3 0
  have r1 := cellH x3 1
  have rf := freeH x3
  simp only [List.getElem?_toArray, List.getElem?_cons_zero, List.getElem?_cons_succ] at q0 q1 p0 p1 p2 p3 r0 r1
  clear x1 x2 x3 x4 x5
  go_wp2_with fail
  obtain ⟨z1, z2⟩ := set2 HX3.out HX5.out (by omega) (.int .i64 ((rs - rl - hi) % 3600)) (.int .i64 ((rs + rl - lo) % 3600))
  refine bodyPost_ret (res_ct Tryz.results33 _ _ (w.heap.size + 1 + 1) 77 #[.int .i64 ((rs - rl - hi) % 3600), .int .i64 ((rs + rl - lo) % 3600)] (0, 0) _ ?_ z1 Tryz.underlying77 rfl info_we2) ?_ ?_
  · rfl
  · rfl
  exact ⟨by rw [HN.out]; rfl, z2⟩
end Go.Proofs.YtebdboacmeafaaaGreat
/- Package firetowerref05: SamePairs. -/
set_option linter.unusedVariables false
set_option linter.unusedSimpArgs false
namespace Go.Proofs.YtebdboacmeafaaaGreat
open Go Go.RowKit

/-- A row of pairs. -/
def P2Row (w : World) (v : Value) (l : List Pi2) : Prop :=
  (∃ a cap, v = .slice a 0 cap ∧ l = []) ∨
  ∃ b off cap, v = .slice (some ⟨b, off, none⟩) l.length cap ∧ b < w.heap.size ∧ ∀ i, i < l.length → w.cell? ⟨b, off + i * 2, none⟩ = some (.int .i64 (l.getD i (0, 0)).1) ∧ w.cell? ⟨b, off + i * 2 + 1, none⟩ = some (.int .i64 (l.getD i (0, 0)).2)
theorem P2Row.form {w : World} {v : Value} {l : List Pi2} (h : P2Row w v l) : ∃ a cap, v = .slice a l.length cap ∧ ∀ i, i < l.length → ∃ b off, a = some ⟨b, off, none⟩ ∧ b < w.heap.size ∧ w.cell? ⟨b, off + i * 2, none⟩ = some (.int .i64 (l.getD i (0, 0)).1) ∧ w.cell? ⟨b, off + i * 2 + 1, none⟩ = some (.int .i64 (l.getD i (0, 0)).2) := by
  rcases h with ⟨a, cap, rfl, rfl⟩ | ⟨b, off, cap, rfl, hb, hc⟩
  · exact ⟨a, cap, rfl, fun k hk => by simp at hk⟩
  · exact ⟨_, cap, rfl, fun k hk => ⟨b, off, rfl, hb, hc k hk⟩⟩
theorem two_eq (x y u v : Int) (w : World) : (Op.equalIn 10000 68 (.agg #[.int .i64 x, .int .i64 y]) (.agg #[.int .i64 u, .int .i64 v])).run Tryz.prog w = .ok (x == u && y == v) w := by
  obtain ⟨i0, hi0⟩ : ∃ i, Tryz.prog.info? 3 = some i := Option.isSome_iff_exists.1 (by kernel_rfl)
  have hu : Tryz.prog.underlying 68 = some (.array 2 3) := by kernel_rfl
  have hui : Tryz.prog.underlying 3 = some (.int .i64) := by kernel_rfl
  have hc : Tryz.prog.cellsOf 3 = 1 := by kernel_rfl
  have p0 : ∀ x y : Int, (part 3 #[.int .i64 x, .int .i64 y] 0).run Tryz.prog w = .ok (.int .i64 x) w := fun x y => by kernel_rfl
  have p1 : ∀ x y : Int, (part 3 #[.int .i64 x, .int .i64 y] 1).run Tryz.prog w = .ok (.int .i64 y) w := fun x y => by kernel_rfl
  have e1 : ∀ z z' : Int, (Op.equalIn 9999 3 (.int .i64 z) (.int .i64 z')).run Tryz.prog w = .ok (z == z') w := fun z z' =>
    run_equalIn_int (P := Tryz.prog) w 9998 3 .i64 .i64 z z' hui
  have h := run_equalIn_array (P := Tryz.prog) w 9999 #[.int .i64 x, .int .i64 y] #[.int .i64 u, .int .i64 v] hu hi0
  rw [show (10000 : Nat) = 9999 + 1 from rfl, h, hc, show List.range 2 = [0, 1] from rfl]
  cases hA : (x == u) <;> cases hB : (y == v) <;> simp [Op.eqItems, Sem.run_bind, Nat.zero_mul, Nat.one_mul, p0, p1, e1, hA, hB, Result.andThen_ok, Sem.run_pure]
/-- The worlds and frames in the head of a region. -/
def SpS (W1 : World) (n c1 c2 b1 o1 b2 o2 k : Nat) (x1 x2 y1 y2 : Int) (B : Bool) (u4 u11 u12 u13 u14 u15 u16 u17 u18 u19 u20 u21 u22 u23 u24 u25 : Value) (listed : Array Bool) (a : Act) (w' : World) : Prop :=
  ∃ (l0 l1 l2 l3 l4 l5 l6 l7 l8 : Bool), listed = #[l0, l1, l2, l3, l4, l5, l6, l7, l8] ∧ a = { tmps := #[.slice (some ⟨b1, o1, none⟩) n c1, .slice (some ⟨b2, o2, none⟩) n c2, undef, undef, u4, .int .i64 (k : Int), .slice (some ⟨b1, o1, none⟩) n c1, .int .i64 (n : Int), .slice (some ⟨b2, o2, none⟩) n c2, .int .i64 (n : Int), .bool false, u11, u12, u13, u14, u15, u16, pkIf l0 (.slice (some ⟨b1, o1, none⟩) n c1) (u17), pkIf l1 (.int .i64 (k : Int)) (u18), pkIf l2 (.pointer (some ⟨b1, o1 + k * 2, none⟩)) (u19), pkIf l3 (.agg #[.int .i64 x1, .int .i64 x2]) (u20), pkIf l4 (.slice (some ⟨b2, o2, none⟩) n c2) (u21), pkIf l5 (.int .i64 (k : Int)) (u22), pkIf l6 (.pointer (some ⟨b2, o2 + k * 2, none⟩)) (u23), pkIf l7 (.agg #[.int .i64 y1, .int .i64 y2]) (u24), pkIf l8 (.bool (!B)) (u25)], defers := [] } ∧ Below W1.heap.size W1 w'
theorem cell_keep {w w' : World} {b : Nat} (h : Below w.heap.size w w') (hb : b < w.heap.size) (o : Nat) : w'.cell? ⟨b, o, none⟩ = w.cell? ⟨b, o, none⟩ := by
  unfold World.cell?; rw [h.block b hb]
theorem ext_pi {l m : List Pi2} (hl : l.length = m.length) (h : ∀ i, i < l.length → l.getD i (0, 0) = m.getD i (0, 0)) : l = m := by
  refine List.ext_getElem hl fun i h1 h2 => ?_
  have := h i h1
  rwa [List.getD_eq_getElem?_getD, List.getD_eq_getElem?_getD, List.getElem?_eq_getElem h1, List.getElem?_eq_getElem h2] at this
set_option maxRecDepth 100000 in
set_option maxHeartbeats 4000000 in
theorem samePairs_any (v1 v2 : Value) (l m : List Pi2) (w : World) (h1 : P2Row w v1 l) (h2 : P2Row w v2 m) (hl : l.length ≤ 100000) (hm : m.length ≤ 100000) :
    Calls Tryz.prog 37 #[v1, v2] w fun e w' => e = .returned (.bool (decide (l = m))) ∧ Below w.heap.size w w' := by
  obtain ⟨a1, c1, rfl, hc1⟩ := h1.form
  obtain ⟨a2, c2, rfl, hc2⟩ := h2.form
  have H1 := Lib.hid hc1
  have H2 := Lib.hid hc2
  have HL := Lib.hid hl
  obtain ⟨R, hR⟩ : ∃ R, decide (l = m) = R := ⟨_, rfl⟩
  rw [hR]
  have HR := Lib.hid hR
  clear hR h1 h2 hc1 hc2 hl
  by_cases hlm : l.length = m.length
  case neg =>
    have hne : ¬ ((l.length : Int) = m.length) := by omega
    have HN : Hid (R = false) := Lib.hid (by rw [← HR.out]; exact decide_eq_false (fun h => hlm (by rw [h])))
    go_enter Tryz.func37, Tryz.ntmps37
    go_wp2_with fail
    go_ret
    exact ⟨by rw [HN.out]; rfl, Below.refl _ _⟩
  have HLM := Lib.hid hlm
  have hlm' : (m.length : Int) = l.length := by omega
  have hme : m.length = l.length := hlm.symm
  rw [hme]
  clear hlm hme hlm' hm
  go_enter Tryz.func37, Tryz.ntmps37
  go_wp2_with fail
  go_loopw [5] (fun i wr => ∃ (k : Nat), k ≤ l.length ∧ i = .int .i64 k ∧ Hid (Below w.heap.size w wr) ∧ Hid (∀ j, j < k → l.getD j (0, 0) = m.getD j (0, 0))) (fun i _ => l.length - (intOf i).toNat)
  case atStart => exact ⟨0, Nat.zero_le _, rfl, Lib.hid (Below.refl _ _), Lib.hid (fun j hj => by omega)⟩
  case round =>
    obtain ⟨k, hk, rfl, hB, hN⟩ := hrel
    by_cases hkl : k < l.length
    · obtain ⟨b1, o1, rfl, hb1, p0, p1⟩ := H1.out k hkl
      obtain ⟨b2, o2, rfl, hb2, q0, q1⟩ := H2.out k (by have := HLM.out; omega)
      have hki : (k : Int) < l.length := by omega
      have hk0 : (0 : Int) ≤ k := by omega
      have ek : IntKind.i64.wrap ((k : Int) + 1) = (k : Int) + 1 := IntWalk.i64_in _ (by have := HL.out; omega)
      have HKL := Lib.hid hkl
      obtain ⟨⟨x1, x2⟩, hx⟩ : ∃ x, l.getD k (0, 0) = x := ⟨_, rfl⟩
      obtain ⟨⟨y1, y2⟩, hy⟩ : ∃ x, m.getD k (0, 0) = x := ⟨_, rfl⟩
      have HX := Lib.hid (And.intro hx hy)
      rw [hx] at p0 p1
      rw [hy] at q0 q1
      simp only at p0 p1 q0 q1
      clear hx hy
      obtain ⟨B, hBe⟩ : ∃ B, (x1 == y1 && x2 == y2) = B := ⟨_, rfl⟩
      have HQ : Hid (∀ w', (Op.equalIn 10000 68 (.agg #[.int .i64 x1, .int .i64 x2]) (.agg #[.int .i64 y1, .int .i64 y2])).run Tryz.prog w' = .ok B w') := Lib.hid (fun w' => by rw [two_eq, hBe])
      have HP : Hid (∀ w', Below wr.heap.size wr w' → w'.cell? ⟨b1, o1 + k * 2, none⟩ = some (.int .i64 x1) ∧ w'.cell? ⟨b1, o1 + k * 2 + 1, none⟩ = some (.int .i64 x2) ∧ w'.cell? ⟨b2, o2 + k * 2, none⟩ = some (.int .i64 y1) ∧ w'.cell? ⟨b2, o2 + k * 2 + 1, none⟩ = some (.int .i64 y2)) := Lib.hid (fun w' h => by
        have hk := hB.out.trans (h.mono hB.out.size)
        rw [cell_keep hk hb1, cell_keep hk hb1, cell_keep hk hb2, cell_keep hk hb2]
        exact ⟨p0, p1, q0, q1⟩)
      clear p0 p1 q0 q1 hb1 hb2
      go_wp2_with fail
      refine wp_region_invn (by kernel_rfl) (SpS wr l.length c1 c2 b1 o1 b2 o2 k x1 x2 y1 y2 B _ _ _ _ _ _ _ _ _ _ _ _ _ _ _ _) ⟨false, false, false, false, false, false, false, false, false, rfl, rfl, (Below.refl _ _).drew⟩ ?hend ?hstep
      case hend =>
        rintro listed a w' ⟨l0, l1, l2, l3, l4, l5, l6, l7, l8, rfl, rfl, hb⟩ hall
        have hal0 := ready_all (by kernel_rfl) rfl hall 9
        have hal : l0 = true ∧ l1 = true ∧ l2 = true ∧ l3 = true ∧ l4 = true ∧ l5 = true ∧ l6 = true ∧ l7 = true ∧ l8 = true := ⟨hal0 0 (by decide) (by simp), hal0 1 (by decide) (by simp), hal0 2 (by decide) (by simp), hal0 3 (by decide) (by simp), hal0 4 (by decide) (by simp), hal0 5 (by decide) (by simp), hal0 6 (by decide) (by simp), hal0 7 (by decide) (by simp), hal0 8 (by decide) (by simp)⟩
        obtain ⟨rfl, rfl, rfl, rfl, rfl, rfl, rfl, rfl, rfl⟩ := hal
        simp only [pkIf_true, List.drop_succ_cons, List.drop_zero]
        clear hall hal0
        have HB5 := Lib.hid (hB.out.trans (hb.mono hB.out.size))
        clear hb HP
        cases B
        · have HN2 : Hid (R = false) := Lib.hid (by
            rw [← HR.out]
            refine decide_eq_false (fun h => ?_)
            have h1 := HX.out.1
            rw [h, HX.out.2] at h1
            obtain ⟨rfl, rfl⟩ : y1 = x1 ∧ y2 = x2 := ⟨congrArg Prod.fst h1, congrArg Prod.snd h1⟩
            simp at hBe)
          clear hBe
          go_wp2_with fail
          go_ret
          exact ⟨by rw [HN2.out]; rfl, HB5.out⟩
        · have HN2 : Hid (∀ j, j < k + 1 → l.getD j (0, 0) = m.getD j (0, 0)) := Lib.hid (fun j hj => by
            by_cases e : j = k
            · subst e
              rw [Bool.and_eq_true, beq_iff_eq, beq_iff_eq] at hBe
              rw [HX.out.1, HX.out.2, hBe.1, hBe.2]
            · exact hN.out j (by omega))
          clear hBe
          go_wp2_with fail
          go_roundw
          case rel => exact ⟨k + 1, HKL.out, by go_num, HB5, HN2⟩
          case measure => have := HKL.out; simp [intOf]; omega
      case hstep =>
        rintro listed a w' i ⟨l0, l1, l2, l3, l4, l5, l6, l7, l8, rfl, rfl, hb⟩ hi
        obtain ⟨hf, o', ho', hp⟩ := mem_ready.1 hi
        have hin : i < 9 := (Array.getElem?_eq_some_iff.1 ho').1
        clear hi
        obtain ⟨p0, p1, q0, q1⟩ := HP.out w' hb
        match i, hin with
        | 0, _ =>
          obtain rfl : l0 = false := by simpa using hf
          clear hp ho'
          unfold wpOp
          simp only [pkIf_true]
          go_simp
          exact .inl ⟨true, l1, l2, l3, l4, l5, l6, l7, l8, rfl, rfl, hb⟩
        | 1, _ =>
          obtain rfl : l1 = false := by simpa using hf
          clear hp ho'
          unfold wpOp
          simp only [pkIf_true]
          go_simp
          exact .inl ⟨l0, true, l2, l3, l4, l5, l6, l7, l8, rfl, rfl, hb⟩
        | 2, _ =>
          obtain rfl : l2 = false := by simpa using hf
          cases ho'
          obtain rfl : l0 = true := by simpa using hp ⟨0, .data⟩ (by simp) rfl
          obtain rfl : l1 = true := by simpa using hp ⟨1, .data⟩ (by simp) rfl
          clear hp
          unfold wpOp
          simp only [pkIf_true]
          go_simp
          exact .inl ⟨true, true, true, l3, l4, l5, l6, l7, l8, rfl, rfl, hb⟩
        | 3, _ =>
          obtain rfl : l3 = false := by simpa using hf
          cases ho'
          obtain rfl : l2 = true := by simpa using hp ⟨2, .data⟩ (by simp) rfl
          clear hp
          unfold wpOp
          simp only [pkIf_true]
          go_simp
          exact .inl ⟨l0, l1, true, true, l4, l5, l6, l7, l8, rfl, rfl, hb⟩
        | 4, _ =>
          obtain rfl : l4 = false := by simpa using hf
          clear hp ho'
          unfold wpOp
          simp only [pkIf_true]
          go_simp
          exact .inl ⟨l0, l1, l2, l3, true, l5, l6, l7, l8, rfl, rfl, hb⟩
        | 5, _ =>
          obtain rfl : l5 = false := by simpa using hf
          clear hp ho'
          unfold wpOp
          simp only [pkIf_true]
          go_simp
          exact .inl ⟨l0, l1, l2, l3, l4, true, l6, l7, l8, rfl, rfl, hb⟩
        | 6, _ =>
          obtain rfl : l6 = false := by simpa using hf
          cases ho'
          obtain rfl : l4 = true := by simpa using hp ⟨4, .data⟩ (by simp) rfl
          obtain rfl : l5 = true := by simpa using hp ⟨5, .data⟩ (by simp) rfl
          clear hp
          unfold wpOp
          simp only [pkIf_true]
          go_simp
          exact .inl ⟨l0, l1, l2, l3, true, true, true, l7, l8, rfl, rfl, hb⟩
        | 7, _ =>
          obtain rfl : l7 = false := by simpa using hf
          cases ho'
          obtain rfl : l6 = true := by simpa using hp ⟨6, .data⟩ (by simp) rfl
          clear hp
          unfold wpOp
          simp only [pkIf_true]
          go_simp
          exact .inl ⟨l0, l1, l2, l3, l4, l5, true, true, l8, rfl, rfl, hb⟩
        | 8, _ =>
          obtain rfl : l8 = false := by simpa using hf
          cases ho'
          obtain rfl : l3 = true := by simpa using hp ⟨3, .data⟩ (by simp) rfl
          obtain rfl : l7 = true := by simpa using hp ⟨7, .data⟩ (by simp) rfl
          clear hp
          unfold wpOp
          simp only [pkIf_true]
          have hq := HQ.out w'
          go_simp
          exact .inl ⟨l0, l1, l2, true, l4, l5, l6, true, true, rfl, rfl, hb⟩
    · obtain rfl : k = l.length := by omega
      have HN2 : Hid (R = true) := Lib.hid (by
        rw [← HR.out]
        exact decide_eq_true (ext_pi HLM.out hN.out))
      go_wp2_with fail
      go_ret
      exact ⟨by rw [HN2.out]; rfl, hB.out⟩
end Go.Proofs.YtebdboacmeafaaaGreat
