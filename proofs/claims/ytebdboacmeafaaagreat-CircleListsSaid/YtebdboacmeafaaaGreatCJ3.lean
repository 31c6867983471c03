/- Package circle: Lowest, Highest. -/
import Derived.Test.YtebdboacmeafaaaGreatCJ2
set_option linter.unusedVariables false
set_option linter.unusedSimpArgs false
namespace Go.Proofs.YtebdboacmeafaaaGreat
open Go Go.RowKit

set_option maxRecDepth 100000 in
set_option maxHeartbeats 8000000 in
theorem Lowest_end (a b : Int) (w : World) : Calls Tryz.prog 55 #[.agg #[.int .i64 a, .int .i64 b]] w fun e w' => e = .returned (.int .i64 a) ∧ Below w.heap.size w w' := by
  obtain ⟨x0, xlt, xb⟩ := cells1 w #[.int .i64 a, .int .i64 b] 36 (Below.refl _ _)
  have HNt : Hid ((w.alloc (.cells #[.int .i64 a, .int .i64 b] 36)).heap[w.heap.size]? = some (.cells #[.int .i64 a, .int .i64 b] 36 (0, 0))) := Lib.hid x0
  have HB : Hid (Below w.heap.size w (w.alloc (.cells #[.int .i64 a, .int .i64 b] 36))) := Lib.hid xb
  obtain ⟨Z, hZ⟩ : ∃ Z, (w.alloc (.cells #[.int .i64 a, .int .i64 b] 36)) = Z := ⟨_, rfl⟩
  rw [hZ] at HB HNt
  have HZ := Lib.hid hZ
  clear hZ xlt xb x0
  go_enter Tryz.func55, Tryz.ntmps55
  have zt0 := cellH HNt.out 0
  have zt1 := cellH HNt.out 1
  simp only [List.getElem?_toArray, List.getElem?_cons_zero, List.getElem?_cons_succ] at zt0 zt1
  go_wp2_with fail
  rw [HZ.out]
  go_ret
  exact ⟨rfl, HB.out⟩
set_option maxRecDepth 100000 in
set_option maxHeartbeats 8000000 in
theorem Lowest_any (v1 v2 : Value) (cs : List Ci) (ks : List Ck) (id lo hi : Int) (w : World) (hv1 : CiRow w v1 cs) (hv2 : CkRow w v2 ks) (hl1 : cs.length ≤ 9223372036854775807) (hl2 : ks.length ≤ 9223372036854775807) :
    Calls Tryz.prog 15 #[.agg #[v1, v2], .int .i64 id, .agg #[.int .i64 lo, .int .i64 hi]] w fun e w' => EnOut cs ks id lo hi (fun p => p.1) w e w' := by
  obtain ⟨a1, c1, rfl, _⟩ := hv1.form
  obtain ⟨a2, c2, rfl, _⟩ := hv2.form
  have HEN := Lib.hid (fun w' (h : Below w.heap.size w w') => ends_any (.slice a1 cs.length c1) (.slice a2 ks.length c2) cs ks id lo hi 55 ((fun p => p.1) : Pi2 → Int) w' (hv1.keep h) (hv2.keep h) hl1 hl2 (enters_of Tryz.func55 (by kernel_rfl) rfl) (fun w'' a b => Lowest_end a b w''))
  unfold EnOut at HEN ⊢
  obtain ⟨E, hE⟩ : ∃ q, snE cs ks id lo hi = q := ⟨_, rfl⟩
  obtain ⟨F, hF⟩ : ∃ q, ciF cs id = q := ⟨_, rfl⟩
  simp only [hE, hF] at HEN ⊢
  clear hv1 hv2 hl1 hl2 hE hF
  obtain ⟨x0, x1, x2, xlt, xb⟩ := cells3 w #[.slice a1 cs.length c1, .slice a2 ks.length c2] #[.int .i64 lo, .int .i64 hi] #[.int .i64 0, .int .i64 0, .slice none 0 0] 25 36 38 (Below.refl _ _)
  have HNc : Hid ((((w.alloc (.cells #[.slice a1 cs.length c1, .slice a2 ks.length c2] 25)).alloc (.cells #[.int .i64 lo, .int .i64 hi] 36)).alloc (.cells #[.int .i64 0, .int .i64 0, .slice none 0 0] 38)).heap[w.heap.size]? = some (.cells #[.slice a1 cs.length c1, .slice a2 ks.length c2] 25 (0, 0))) := Lib.hid x0
  have HNt : Hid ((((w.alloc (.cells #[.slice a1 cs.length c1, .slice a2 ks.length c2] 25)).alloc (.cells #[.int .i64 lo, .int .i64 hi] 36)).alloc (.cells #[.int .i64 0, .int .i64 0, .slice none 0 0] 38)).heap[w.heap.size + 1]? = some (.cells #[.int .i64 lo, .int .i64 hi] 36 (0, 0))) := Lib.hid x1
  have HNr : Hid ((((w.alloc (.cells #[.slice a1 cs.length c1, .slice a2 ks.length c2] 25)).alloc (.cells #[.int .i64 lo, .int .i64 hi] 36)).alloc (.cells #[.int .i64 0, .int .i64 0, .slice none 0 0] 38)).heap[w.heap.size + 1 + 1]? = some (.cells #[.int .i64 0, .int .i64 0, .slice none 0 0] 38 (0, 0))) := Lib.hid x2
  have HB : Hid (Below w.heap.size w (((w.alloc (.cells #[.slice a1 cs.length c1, .slice a2 ks.length c2] 25)).alloc (.cells #[.int .i64 lo, .int .i64 hi] 36)).alloc (.cells #[.int .i64 0, .int .i64 0, .slice none 0 0] 38))) := Lib.hid xb
  obtain ⟨Z, hZ⟩ : ∃ Z, (((w.alloc (.cells #[.slice a1 cs.length c1, .slice a2 ks.length c2] 25)).alloc (.cells #[.int .i64 lo, .int .i64 hi] 36)).alloc (.cells #[.int .i64 0, .int .i64 0, .slice none 0 0] 38)) = Z := ⟨_, rfl⟩
  rw [hZ] at HB HNc HNt HNr
  have HZ := Lib.hid hZ
  clear hZ xlt xb x0 x1 x2
  go_enter Tryz.func15, Tryz.ntmps15
  have zc0 := cellH HNc.out 0
  have zc1 := cellH HNc.out 1
  have zt0 := cellH HNt.out 0
  have zt1 := cellH HNt.out 1
  simp only [List.getElem?_toArray, List.getElem?_cons_zero, List.getElem?_cons_succ] at zc0 zc1 zt0 zt1
  go_wp2_with fail
  rw [HZ.out]
  have HZS : Hid (w.heap.size + 1 + 1 < Z.heap.size) := Lib.hid (Array.getElem?_eq_some_iff.1 HNr.out).1
  have HZW := Lib.hid HB.out.size
  refine (HEN.out _ HB.out).mono ?_
  rintro e w1 ⟨hb, h1, h2⟩
  clear zc0 zc1 zt0 zt1
  replace HB := Lib.hid (HB.out.trans (hb.mono HB.out.size))
  replace HNc := Lib.hid ((hb.block _ (Array.getElem?_eq_some_iff.1 HNc.out).1).trans HNc.out)
  replace HNt := Lib.hid ((hb.block _ (Array.getElem?_eq_some_iff.1 HNt.out).1).trans HNt.out)
  replace HNr := Lib.hid ((hb.block _ (Array.getElem?_eq_some_iff.1 HNr.out).1).trans HNr.out)
  clear hb
  have zr0 := cellH HNr.out 0
  have zr1 := cellH HNr.out 1
  have zr2 := cellH HNr.out 2
  simp only [List.getElem?_toArray, List.getElem?_cons_zero, List.getElem?_cons_succ] at zr0 zr1 zr2
  have zfr := freeH HNr.out
  by_cases h0 : E = 0
  case neg =>
    have he := h1 h0
    subst he
    have HX := Lib.hid h0
    clear h0 h1 h2
    go_wp2_with fail
    obtain ⟨z1, z2⟩ := set3 HNr.out HB.out (by omega) (.int .i64 0) (.int .i64 0) (.slice none 0 0)
    refine bodyPost_ret (res_ct Tryz.results15 _ _ (w.heap.size + 1 + 1) 38 #[.int .i64 0, .int .i64 0, .slice none 0 0] (0, 0) _ rfl z1 Tryz.underlying38 rfl info_zs3) rfl ?_
    exact ⟨z2, (fun _ => rfl), fun h => absurd h HX.out⟩
  have hh := h2 h0
  unfold EnHit at hh
  obtain ⟨z, v, hz, rfl, hr⟩ := hh
  have HZ8 := Lib.hid hz
  obtain ⟨L, hL⟩ : ∃ q, (spN z.dr (dlL z ks) lo (hi - lo + 1).toNat).map (fun p => p.1) = q := ⟨_, rfl⟩
  have HLEQ := Lib.hid hL
  rw [hL] at hr
  obtain ⟨oa, oc, rfl⟩ := row_formC hr
  have HOF := Lib.hid hr
  have HX := Lib.hid h0
  clear hz hr hL h1 h2 h0
  go_wp2_with fail
  obtain ⟨z1, z2⟩ := set3 HNr.out HB.out (by omega) (.int .i64 id) (.int .i64 lo) (.slice oa L.length oc)
  refine bodyPost_ret (res_ct Tryz.results15 _ _ (w.heap.size + 1 + 1) 38 #[.int .i64 id, .int .i64 lo, .slice oa L.length oc] (0, 0) _ rfl z1 Tryz.underlying38 rfl info_zs3) rfl ?_
  exact ⟨z2, (fun h => absurd HX.out h), fun _ => EnHit.mk HZ8.out rfl (by rw [HLEQ.out]; exact OwI.base (oi_set (oi_set (oi_set HOF.out HNr.out (by decide) 0 _) (heap_same HNr.out 0 _) (by decide) 1 _) (heap_same (heap_same HNr.out 0 _) 1 _) (by decide) 2 _) HZW.out)⟩
set_option maxRecDepth 100000 in
set_option maxHeartbeats 8000000 in
theorem Highest_end (a b : Int) (w : World) : Calls Tryz.prog 60 #[.agg #[.int .i64 a, .int .i64 b]] w fun e w' => e = .returned (.int .i64 b) ∧ Below w.heap.size w w' := by
  obtain ⟨x0, xlt, xb⟩ := cells1 w #[.int .i64 a, .int .i64 b] 36 (Below.refl _ _)
  have HNt : Hid ((w.alloc (.cells #[.int .i64 a, .int .i64 b] 36)).heap[w.heap.size]? = some (.cells #[.int .i64 a, .int .i64 b] 36 (0, 0))) := Lib.hid x0
  have HB : Hid (Below w.heap.size w (w.alloc (.cells #[.int .i64 a, .int .i64 b] 36))) := Lib.hid xb
  obtain ⟨Z, hZ⟩ : ∃ Z, (w.alloc (.cells #[.int .i64 a, .int .i64 b] 36)) = Z := ⟨_, rfl⟩
  rw [hZ] at HB HNt
  have HZ := Lib.hid hZ
  clear hZ xlt xb x0
  go_enter Tryz.func60, Tryz.ntmps60
  have zt0 := cellH HNt.out 0
  have zt1 := cellH HNt.out 1
  simp only [List.getElem?_toArray, List.getElem?_cons_zero, List.getElem?_cons_succ] at zt0 zt1
  go_wp2_with fail
  rw [HZ.out]
  go_ret
  exact ⟨rfl, HB.out⟩
set_option maxRecDepth 100000 in
set_option maxHeartbeats 8000000 in
theorem Highest_any (v1 v2 : Value) (cs : List Ci) (ks : List Ck) (id lo hi : Int) (w : World) (hv1 : CiRow w v1 cs) (hv2 : CkRow w v2 ks) (hl1 : cs.length ≤ 9223372036854775807) (hl2 : ks.length ≤ 9223372036854775807) :
    Calls Tryz.prog 17 #[.agg #[v1, v2], .int .i64 id, .agg #[.int .i64 lo, .int .i64 hi]] w fun e w' => EnOut cs ks id lo hi (fun p => p.2) w e w' := by
  obtain ⟨a1, c1, rfl, _⟩ := hv1.form
  obtain ⟨a2, c2, rfl, _⟩ := hv2.form
  have HEN := Lib.hid (fun w' (h : Below w.heap.size w w') => ends_any (.slice a1 cs.length c1) (.slice a2 ks.length c2) cs ks id lo hi 60 ((fun p => p.2) : Pi2 → Int) w' (hv1.keep h) (hv2.keep h) hl1 hl2 (enters_of Tryz.func60 (by kernel_rfl) rfl) (fun w'' a b => Highest_end a b w''))
  unfold EnOut at HEN ⊢
  obtain ⟨E, hE⟩ : ∃ q, snE cs ks id lo hi = q := ⟨_, rfl⟩
  obtain ⟨F, hF⟩ : ∃ q, ciF cs id = q := ⟨_, rfl⟩
  simp only [hE, hF] at HEN ⊢
  clear hv1 hv2 hl1 hl2 hE hF
  obtain ⟨x0, x1, x2, xlt, xb⟩ := cells3 w #[.slice a1 cs.length c1, .slice a2 ks.length c2] #[.int .i64 lo, .int .i64 hi] #[.int .i64 0, .int .i64 0, .slice none 0 0] 25 36 38 (Below.refl _ _)
  have HNc : Hid ((((w.alloc (.cells #[.slice a1 cs.length c1, .slice a2 ks.length c2] 25)).alloc (.cells #[.int .i64 lo, .int .i64 hi] 36)).alloc (.cells #[.int .i64 0, .int .i64 0, .slice none 0 0] 38)).heap[w.heap.size]? = some (.cells #[.slice a1 cs.length c1, .slice a2 ks.length c2] 25 (0, 0))) := Lib.hid x0
  have HNt : Hid ((((w.alloc (.cells #[.slice a1 cs.length c1, .slice a2 ks.length c2] 25)).alloc (.cells #[.int .i64 lo, .int .i64 hi] 36)).alloc (.cells #[.int .i64 0, .int .i64 0, .slice none 0 0] 38)).heap[w.heap.size + 1]? = some (.cells #[.int .i64 lo, .int .i64 hi] 36 (0, 0))) := Lib.hid x1
  have HNr : Hid ((((w.alloc (.cells #[.slice a1 cs.length c1, .slice a2 ks.length c2] 25)).alloc (.cells #[.int .i64 lo, .int .i64 hi] 36)).alloc (.cells #[.int .i64 0, .int .i64 0, .slice none 0 0] 38)).heap[w.heap.size + 1 + 1]? = some (.cells #[.int .i64 0, .int .i64 0, .slice none 0 0] 38 (0, 0))) := Lib.hid x2
  have HB : Hid (Below w.heap.size w (((w.alloc (.cells #[.slice a1 cs.length c1, .slice a2 ks.length c2] 25)).alloc (.cells #[.int .i64 lo, .int .i64 hi] 36)).alloc (.cells #[.int .i64 0, .int .i64 0, .slice none 0 0] 38))) := Lib.hid xb
  obtain ⟨Z, hZ⟩ : ∃ Z, (((w.alloc (.cells #[.slice a1 cs.length c1, .slice a2 ks.length c2] 25)).alloc (.cells #[.int .i64 lo, .int .i64 hi] 36)).alloc (.cells #[.int .i64 0, .int .i64 0, .slice none 0 0] 38)) = Z := ⟨_, rfl⟩
  rw [hZ] at HB HNc HNt HNr
  have HZ := Lib.hid hZ
  clear hZ xlt xb x0 x1 x2
  go_enter Tryz.func17, Tryz.ntmps17
  have zc0 := cellH HNc.out 0
  have zc1 := cellH HNc.out 1
  have zt0 := cellH HNt.out 0
  have zt1 := cellH HNt.out 1
  simp only [List.getElem?_toArray, List.getElem?_cons_zero, List.getElem?_cons_succ] at zc0 zc1 zt0 zt1
  go_wp2_with fail
  rw [HZ.out]
  have HZS : Hid (w.heap.size + 1 + 1 < Z.heap.size) := Lib.hid (Array.getElem?_eq_some_iff.1 HNr.out).1
  have HZW := Lib.hid HB.out.size
  refine (HEN.out _ HB.out).mono ?_
  rintro e w1 ⟨hb, h1, h2⟩
  clear zc0 zc1 zt0 zt1
  replace HB := Lib.hid (HB.out.trans (hb.mono HB.out.size))
  replace HNc := Lib.hid ((hb.block _ (Array.getElem?_eq_some_iff.1 HNc.out).1).trans HNc.out)
  replace HNt := Lib.hid ((hb.block _ (Array.getElem?_eq_some_iff.1 HNt.out).1).trans HNt.out)
  replace HNr := Lib.hid ((hb.block _ (Array.getElem?_eq_some_iff.1 HNr.out).1).trans HNr.out)
  clear hb
  have zr0 := cellH HNr.out 0
  have zr1 := cellH HNr.out 1
  have zr2 := cellH HNr.out 2
  simp only [List.getElem?_toArray, List.getElem?_cons_zero, List.getElem?_cons_succ] at zr0 zr1 zr2
  have zfr := freeH HNr.out
  by_cases h0 : E = 0
  case neg =>
    have he := h1 h0
    subst he
    have HX := Lib.hid h0
    clear h0 h1 h2
    go_wp2_with fail
    obtain ⟨z1, z2⟩ := set3 HNr.out HB.out (by omega) (.int .i64 0) (.int .i64 0) (.slice none 0 0)
    refine bodyPost_ret (res_ct Tryz.results17 _ _ (w.heap.size + 1 + 1) 38 #[.int .i64 0, .int .i64 0, .slice none 0 0] (0, 0) _ rfl z1 Tryz.underlying38 rfl info_zs3) rfl ?_
    exact ⟨z2, (fun _ => rfl), fun h => absurd h HX.out⟩
  have hh := h2 h0
  unfold EnHit at hh
  obtain ⟨z, v, hz, rfl, hr⟩ := hh
  have HZ8 := Lib.hid hz
  obtain ⟨L, hL⟩ : ∃ q, (spN z.dr (dlL z ks) lo (hi - lo + 1).toNat).map (fun p => p.2) = q := ⟨_, rfl⟩
  have HLEQ := Lib.hid hL
  rw [hL] at hr
  obtain ⟨oa, oc, rfl⟩ := row_formC hr
  have HOF := Lib.hid hr
  have HX := Lib.hid h0
  clear hz hr hL h1 h2 h0
  go_wp2_with fail
  obtain ⟨z1, z2⟩ := set3 HNr.out HB.out (by omega) (.int .i64 id) (.int .i64 lo) (.slice oa L.length oc)
  refine bodyPost_ret (res_ct Tryz.results17 _ _ (w.heap.size + 1 + 1) 38 #[.int .i64 id, .int .i64 lo, .slice oa L.length oc] (0, 0) _ rfl z1 Tryz.underlying38 rfl info_zs3) rfl ?_
  exact ⟨z2, (fun h => absurd HX.out h), fun _ => EnHit.mk HZ8.out rfl (by rw [HLEQ.out]; exact OwI.base (oi_set (oi_set (oi_set HOF.out HNr.out (by decide) 0 _) (heap_same HNr.out 0 _) (by decide) 1 _) (heap_same (heap_same HNr.out 0 _) 1 _) (by decide) 2 _) HZW.out)⟩
end Go.Proofs.YtebdboacmeafaaaGreat
