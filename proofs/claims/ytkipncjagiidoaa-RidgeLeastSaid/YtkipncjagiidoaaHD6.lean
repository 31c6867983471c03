/- RidgeLeast: with the least height a line is free, with one less it is not. -/
import Derived.Test.YtkipncjagiidoaaHC3
import Derived.Test.YtkipncjagiidoaaHD2
import Derived.Test.YtkipncjagiidoaaHT2
set_option linter.unusedVariables false
set_option linter.unusedSimpArgs false
namespace Go.Proofs.Ytkipncjagiidoaa
open Go Go.RowKit

theorem vl_two {wd hg : Int} {g : List Int} {a b : Pl} {h c d : Int} (hv : vlB wd hg g a b [h] = true) (hc : 0 ≤ c ∧ c ≤ 200) (hd : 0 ≤ d ∧ d ≤ 200) : vlB wd hg g a b [c, d] = true := by
  unfold vlB tallB at hv ⊢
  simp only [List.all_cons, List.all_nil, Bool.and_true, Bool.and_eq_true] at hv ⊢
  unfold wiB
  simp only [Bool.and_eq_true, decide_eq_true_eq]
  exact ⟨hv.1, hc, hd⟩
set_option maxRecDepth 100000 in
set_option maxHeartbeats 8000000 in
theorem least_law (wd hg : Int) (o : Value) (g : List Int) (a1 a2 hh b1 b2 : Int) (w : World) (hv : INRow w o g) (hl : g.length ≤ 9223372036854775807) :
    Calls Try.prog 10 #[mpV wd hg o, .agg #[.int .i64 a1, .int .i64 a2], .int .i64 hh, .agg #[.int .i64 b1, .int .i64 b2]] w fun e w' => e = .returned (.bool true) ∧ Below w.heap.size w w' := by
  have HCL := Lib.hid (fun (u r : Int) w' (h : Below w.heap.size w w') => Clear_any wd hg o g (a1, a2) (b1, b2) u r w' (hv.keep h) hl)
  have HGR := Lib.hid (fun w' (h : Below w.heap.size w w') => lground_any wd hg o g w' (hv.keep h) hl)
  have HND := Lib.hid (fun w' (h : Below w.heap.size w w') => Needed_any wd hg o g (a1, a2) (b1, b2) hh w' (hv.keep h) hl)
  have HTL := Lib.hid (fun w' (h : Below w.heap.size w w') => Tall_any wd hg o g (a1, a2) (b1, b2) hh w' (hv.keep h) hl)
  unfold mpV plV at HCL HND HTL
  unfold mpV at HGR
  unfold mpV
  have HA := Lib.hid (fun W' => three_cells w #[.int .i64 wd, .int .i64 hg, o] #[.int .i64 a1, .int .i64 a2] #[.int .i64 b1, .int .i64 b2] 24 30 30 (W := W'))
  have HB0 := Lib.hid ((((Below.refl _ w).alloc (Nat.le_refl w.heap.size) (.cells #[.int .i64 wd, .int .i64 hg, o] 24)).alloc (by simp) (.cells #[.int .i64 a1, .int .i64 a2] 30)).alloc (by simp; omega) (.cells #[.int .i64 b1, .int .i64 b2] 30))
  obtain ⟨W1, hW1⟩ : ∃ W1, ((w.alloc (.cells #[.int .i64 wd, .int .i64 hg, o] 24)).alloc (.cells #[.int .i64 a1, .int .i64 a2] 30)).alloc (.cells #[.int .i64 b1, .int .i64 b2] 30) = W1 := ⟨_, rfl⟩
  rw [hW1] at HA HB0
  have HW1 := Lib.hid hW1
  have ead : w.heap.size + 1 + 1 = w.heap.size + 2 := rfl
  have HRD : Hid (∀ W', Below W1.heap.size W1 W' → W'.cell? ⟨w.heap.size, 0, none⟩ = some (.int .i64 wd) ∧ W'.cell? ⟨w.heap.size, 1, none⟩ = some (.int .i64 hg) ∧ W'.cell? ⟨w.heap.size, 2, none⟩ = some o ∧ W'.cell? ⟨w.heap.size + 1, 0, none⟩ = some (.int .i64 a1) ∧ W'.cell? ⟨w.heap.size + 1, 1, none⟩ = some (.int .i64 a2) ∧
      W'.cell? ⟨w.heap.size + 2, 0, none⟩ = some (.int .i64 b1) ∧ W'.cell? ⟨w.heap.size + 2, 1, none⟩ = some (.int .i64 b2)) := Lib.hid (fun W' h => by
    obtain ⟨m0, m1, m2, hs, _⟩ := HA.out W' h
    exact ⟨cellH m0 0, cellH m0 1, cellH m0 2, cellH m1 0, cellH m1 1, cellH m2 0, cellH m2 1⟩)
  clear hW1
  go_enter Try.func10, Try.ntmps10
  go_wp2_with fail
  rw [HW1.out]
  refine (head_any W1).mono ?_
  rintro e w2 ⟨rfl, hb⟩
  have HD2 := Lib.hid hb
  have HB2 := Lib.hid (HB0.out.trans (hb.mono HB0.out.size))
  clear hb
  obtain ⟨q0, q1, q2, r0, r1, s0, s1⟩ := HRD.out w2 HD2.out
  go_wp2_with fail
  refine (HGR.out _ HB2.out).mono ?_
  rintro e w3 ⟨rfl, hb⟩
  have HD3 := Lib.hid (HD2.out.trans (hb.mono HD2.out.size))
  have HB3 := Lib.hid (HB2.out.trans (hb.mono HB2.out.size))
  clear hb q0 q1 q2 r0 r1 s0 s1
  cases decide (g.length ≤ 2600)
  · go_wp2_with fail
    go_ret
    exact ⟨rfl, HB3.out⟩
  cases hvl : vlB wd hg g (a1, a2) (b1, b2) [hh]
  · have HN : Hid (lnE wd hg g (a1, a2) (b1, b2) [hh] = 1) := Lib.hid (by unfold lnE; rw [hvl]; rfl)
    rw [HN.out, hvl, if_neg (by decide)] at HND HTL
    clear hvl
    obtain ⟨q0, q1, q2, r0, r1, s0, s1⟩ := HRD.out w3 HD3.out
    go_wp2_with fail
    refine (HND.out _ HB3.out).mono ?_
    rintro e w4 ⟨rfl, hb⟩
    have HD4 := Lib.hid (HD3.out.trans (hb.mono HD3.out.size))
    have HB4 := Lib.hid (HB3.out.trans (hb.mono HB3.out.size))
    clear hb q0 q1 q2 r0 r1 s0 s1
    obtain ⟨q0, q1, q2, r0, r1, s0, s1⟩ := HRD.out w4 HD4.out
    go_wp2_with fail
    refine (HTL.out _ HB4.out).mono ?_
    rintro e w5 ⟨rfl, hb⟩
    have HB5 := Lib.hid (HB4.out.trans (hb.mono HB4.out.size))
    clear hb q0 q1 q2 r0 r1 s0 s1
    go_wp2_with fail
    go_ret
    exact ⟨rfl, HB5.out⟩
  have HN : Hid (lnE wd hg g (a1, a2) (b1, b2) [hh] = 0) := Lib.hid (by unfold lnE; rw [hvl]; rfl)
  rw [HN.out, hvl, if_pos rfl] at HND HTL
  obtain ⟨f1, f2, f3, f4⟩ := vlB_ok hvl
  have hh1 := f4 hh (by simp)
  have HC2 : Hid (∀ u r, 0 ≤ u ∧ u ≤ 200 → 0 ≤ r ∧ r ≤ 200 → clB wd hg g (a1, a2) u (b1, b2) r = freeB g wd (a1, a2) u (b1, b2) r ∧ lnE wd hg g (a1, a2) (b1, b2) [u, r] = 0) := Lib.hid (fun u r hu hr => ⟨by unfold clB; rw [vl_two hvl hu hr]; rfl, by unfold lnE; rw [vl_two hvl hu hr]; rfl⟩)
  have HF1 : Hid (∀ r, 0 ≤ r ∧ r ≤ 200 → clB wd hg g (a1, a2) hh (b1, b2) r = decide (ndI g wd (a1, a2) hh (b1, b2) ≤ r)) := Lib.hid (fun r hr => by rw [(HC2.out hh r hh1 hr).1, free_dec _ _ _ _ _ _ hr.1])
  have HF2 : Hid (∀ r, 0 ≤ r ∧ r ≤ 200 → clB wd hg g (a1, a2) r (b1, b2) hh = decide (ndI g wd (b1, b2) hh (a1, a2) ≤ r)) := Lib.hid (fun r hr => by rw [(HC2.out r hh hr hh1).1, freeB_symm, free_dec _ _ _ _ _ _ hr.1])
  have HE1 : Hid (∀ r, 0 ≤ r ∧ r ≤ 200 → lnE wd hg g (a1, a2) (b1, b2) [hh, r] = 0) := Lib.hid (fun r hr => (HC2.out hh r hh1 hr).2)
  have HE2 : Hid (∀ r, 0 ≤ r ∧ r ≤ 200 → lnE wd hg g (a1, a2) (b1, b2) [r, hh] = 0) := Lib.hid (fun r hr => (HC2.out r hh hr hh1).2)
  have hn0 := nd_nonneg g wd (a1, a2) hh (b1, b2)
  have ht0 := nd_nonneg g wd (b1, b2) hh (a1, a2)
  obtain ⟨n, hn⟩ : ∃ n, ndI g wd (a1, a2) hh (b1, b2) = n := ⟨_, rfl⟩
  obtain ⟨t, ht⟩ : ∃ t, ndI g wd (b1, b2) hh (a1, a2) = t := ⟨_, rfl⟩
  rw [hn] at HND HF1 hn0
  rw [ht] at HTL HF2 ht0
  clear hvl f1 f2 f3 f4 hn ht HC2 hh1
  obtain ⟨q0, q1, q2, r0, r1, s0, s1⟩ := HRD.out w3 HD3.out
  go_wp2_with fail
  refine (HND.out _ HB3.out).mono ?_
  rintro e w4 ⟨rfl, hb⟩
  have HD4 := Lib.hid (HD3.out.trans (hb.mono HD3.out.size))
  have HB4 := Lib.hid (HB3.out.trans (hb.mono HB3.out.size))
  clear hb q0 q1 q2 r0 r1 s0 s1
  obtain ⟨q0, q1, q2, r0, r1, s0, s1⟩ := HRD.out w4 HD4.out
  go_wp2_with fail
  refine (HTL.out _ HB4.out).mono ?_
  rintro e w5 ⟨rfl, hb⟩
  have HD5 := Lib.hid (HD4.out.trans (hb.mono HD4.out.size))
  have HB5 := Lib.hid (HB4.out.trans (hb.mono HB4.out.size))
  clear hb q0 q1 q2 r0 r1 s0 s1
  have mn : 0 ≤ min n 200 ∧ min n 200 ≤ 200 := by omega
  have mt : 0 ≤ min t 200 ∧ min t 200 ≤ 200 := by omega
  have HC1 := Lib.hid (fun w' (h : Below w.heap.size w w') => by have h2 := HCL.out hh (min n 200) w' h; rw [HF1.out _ mn, HE1.out _ mn] at h2; exact h2)
  have HC2 := Lib.hid (fun w' (h : Below w.heap.size w w') => by have h2 := HCL.out (min t 200) hh w' h; rw [HF2.out _ mt, HE2.out _ mt] at h2; exact h2)
  have HC3 := Lib.hid (fun (h0 : 0 < n ∧ n ≤ 200) w' (h : Below w.heap.size w w') => by have h2 := HCL.out hh (n - 1) w' h; rw [HF1.out _ (by omega), HE1.out _ (by omega), decide_eq_false (show ¬ n ≤ n - 1 by omega)] at h2; exact h2)
  have HC4 := Lib.hid (fun (h0 : 0 < t ∧ t ≤ 200) w' (h : Below w.heap.size w w') => by have h2 := HCL.out (t - 1) hh w' h; rw [HF2.out _ (by omega), HE2.out _ (by omega), decide_eq_false (show ¬ t ≤ t - 1 by omega)] at h2; exact h2)
  clear HCL HF1 HF2 HE1 HE2 mn mt
  have hn3 : n = 0 ∨ (0 < n ∧ n ≤ 200) ∨ 200 < n := by omega
  have ht3 : t = 0 ∨ (0 < t ∧ t ≤ 200) ∨ 200 < t := by omega
  rcases hn3 with hn3 | hn3 | hn3 <;> rcases ht3 with ht3 | ht3 | ht3
  · rw [decide_eq_true (show n ≤ min n 200 by omega)] at HC1
    rw [decide_eq_true (show t ≤ min t 200 by omega)] at HC2
    clear HC3
    clear HC4
    subst hn3
    subst ht3
    obtain ⟨q0, q1, q2, r0, r1, s0, s1⟩ := HRD.out w5 HD5.out
    go_wp2_with fail
    refine (HC1.out _ HB5.out).mono ?_
    rintro e w6 ⟨rfl, hb⟩
    have HD6 := Lib.hid (HD5.out.trans (hb.mono HD5.out.size))
    have HB6 := Lib.hid (HB5.out.trans (hb.mono HB5.out.size))
    clear hb q0 q1 q2 r0 r1 s0 s1
    obtain ⟨q0, q1, q2, r0, r1, s0, s1⟩ := HRD.out w6 HD6.out
    go_wp2_with fail
    refine (HC2.out _ HB6.out).mono ?_
    rintro e w7 ⟨rfl, hb⟩
    have HD7 := Lib.hid (HD6.out.trans (hb.mono HD6.out.size))
    have HB7 := Lib.hid (HB6.out.trans (hb.mono HB6.out.size))
    clear hb q0 q1 q2 r0 r1 s0 s1
    obtain ⟨q0, q1, q2, r0, r1, s0, s1⟩ := HRD.out w7 HD7.out
    go_wp2_with fail
    go_ret
    exact ⟨rfl, HB7.out⟩
  · rw [decide_eq_true (show n ≤ min n 200 by omega)] at HC1
    rw [decide_eq_true (show t ≤ min t 200 by omega)] at HC2
    clear HC3
    have HC4 := Lib.hid (HC4.out ht3)
    have e2 : wrap64 (t - 1) = t - 1 := w64 (by omega)
    obtain ⟨ht4, ht5⟩ := ht3
    subst hn3
    obtain ⟨q0, q1, q2, r0, r1, s0, s1⟩ := HRD.out w5 HD5.out
    go_wp2_with fail
    refine (HC1.out _ HB5.out).mono ?_
    rintro e w6 ⟨rfl, hb⟩
    have HD6 := Lib.hid (HD5.out.trans (hb.mono HD5.out.size))
    have HB6 := Lib.hid (HB5.out.trans (hb.mono HB5.out.size))
    clear hb q0 q1 q2 r0 r1 s0 s1
    obtain ⟨q0, q1, q2, r0, r1, s0, s1⟩ := HRD.out w6 HD6.out
    go_wp2_with fail
    refine (HC2.out _ HB6.out).mono ?_
    rintro e w7 ⟨rfl, hb⟩
    have HD7 := Lib.hid (HD6.out.trans (hb.mono HD6.out.size))
    have HB7 := Lib.hid (HB6.out.trans (hb.mono HB6.out.size))
    clear hb q0 q1 q2 r0 r1 s0 s1
    obtain ⟨q0, q1, q2, r0, r1, s0, s1⟩ := HRD.out w7 HD7.out
    go_wp2_with fail
    refine (HC4.out _ HB7.out).mono ?_
    rintro e w8 ⟨rfl, hb⟩
    have HD8 := Lib.hid (HD7.out.trans (hb.mono HD7.out.size))
    have HB8 := Lib.hid (HB7.out.trans (hb.mono HB7.out.size))
    clear hb q0 q1 q2 r0 r1 s0 s1
    obtain ⟨q0, q1, q2, r0, r1, s0, s1⟩ := HRD.out w8 HD8.out
    go_wp2_with fail
    go_ret
    exact ⟨rfl, HB8.out⟩
  · rw [decide_eq_true (show n ≤ min n 200 by omega)] at HC1
    rw [decide_eq_false (show ¬ t ≤ min t 200 by omega)] at HC2
    clear HC3
    clear HC4
    subst hn3
    obtain ⟨q0, q1, q2, r0, r1, s0, s1⟩ := HRD.out w5 HD5.out
    go_wp2_with fail
    refine (HC1.out _ HB5.out).mono ?_
    rintro e w6 ⟨rfl, hb⟩
    have HD6 := Lib.hid (HD5.out.trans (hb.mono HD5.out.size))
    have HB6 := Lib.hid (HB5.out.trans (hb.mono HB5.out.size))
    clear hb q0 q1 q2 r0 r1 s0 s1
    obtain ⟨q0, q1, q2, r0, r1, s0, s1⟩ := HRD.out w6 HD6.out
    go_wp2_with fail
    refine (HC2.out _ HB6.out).mono ?_
    rintro e w7 ⟨rfl, hb⟩
    have HD7 := Lib.hid (HD6.out.trans (hb.mono HD6.out.size))
    have HB7 := Lib.hid (HB6.out.trans (hb.mono HB6.out.size))
    clear hb q0 q1 q2 r0 r1 s0 s1
    obtain ⟨q0, q1, q2, r0, r1, s0, s1⟩ := HRD.out w7 HD7.out
    go_wp2_with fail
    go_ret
    exact ⟨rfl, HB7.out⟩
  · rw [decide_eq_true (show n ≤ min n 200 by omega)] at HC1
    rw [decide_eq_true (show t ≤ min t 200 by omega)] at HC2
    have HC3 := Lib.hid (HC3.out hn3)
    have e1 : wrap64 (n - 1) = n - 1 := w64 (by omega)
    obtain ⟨hn4, hn5⟩ := hn3
    clear HC4
    subst ht3
    obtain ⟨q0, q1, q2, r0, r1, s0, s1⟩ := HRD.out w5 HD5.out
    go_wp2_with fail
    refine (HC1.out _ HB5.out).mono ?_
    rintro e w6 ⟨rfl, hb⟩
    have HD6 := Lib.hid (HD5.out.trans (hb.mono HD5.out.size))
    have HB6 := Lib.hid (HB5.out.trans (hb.mono HB5.out.size))
    clear hb q0 q1 q2 r0 r1 s0 s1
    obtain ⟨q0, q1, q2, r0, r1, s0, s1⟩ := HRD.out w6 HD6.out
    go_wp2_with fail
    refine (HC2.out _ HB6.out).mono ?_
    rintro e w7 ⟨rfl, hb⟩
    have HD7 := Lib.hid (HD6.out.trans (hb.mono HD6.out.size))
    have HB7 := Lib.hid (HB6.out.trans (hb.mono HB6.out.size))
    clear hb q0 q1 q2 r0 r1 s0 s1
    obtain ⟨q0, q1, q2, r0, r1, s0, s1⟩ := HRD.out w7 HD7.out
    go_wp2_with fail
    refine (HC3.out _ HB7.out).mono ?_
    rintro e w8 ⟨rfl, hb⟩
    have HD8 := Lib.hid (HD7.out.trans (hb.mono HD7.out.size))
    have HB8 := Lib.hid (HB7.out.trans (hb.mono HB7.out.size))
    clear hb q0 q1 q2 r0 r1 s0 s1
    obtain ⟨q0, q1, q2, r0, r1, s0, s1⟩ := HRD.out w8 HD8.out
    go_wp2_with fail
    go_ret
    exact ⟨rfl, HB8.out⟩
  · rw [decide_eq_true (show n ≤ min n 200 by omega)] at HC1
    rw [decide_eq_true (show t ≤ min t 200 by omega)] at HC2
    have HC3 := Lib.hid (HC3.out hn3)
    have e1 : wrap64 (n - 1) = n - 1 := w64 (by omega)
    obtain ⟨hn4, hn5⟩ := hn3
    have HC4 := Lib.hid (HC4.out ht3)
    have e2 : wrap64 (t - 1) = t - 1 := w64 (by omega)
    obtain ⟨ht4, ht5⟩ := ht3
    obtain ⟨q0, q1, q2, r0, r1, s0, s1⟩ := HRD.out w5 HD5.out
    go_wp2_with fail
    refine (HC1.out _ HB5.out).mono ?_
    rintro e w6 ⟨rfl, hb⟩
    have HD6 := Lib.hid (HD5.out.trans (hb.mono HD5.out.size))
    have HB6 := Lib.hid (HB5.out.trans (hb.mono HB5.out.size))
    clear hb q0 q1 q2 r0 r1 s0 s1
    obtain ⟨q0, q1, q2, r0, r1, s0, s1⟩ := HRD.out w6 HD6.out
    go_wp2_with fail
    refine (HC2.out _ HB6.out).mono ?_
    rintro e w7 ⟨rfl, hb⟩
    have HD7 := Lib.hid (HD6.out.trans (hb.mono HD6.out.size))
    have HB7 := Lib.hid (HB6.out.trans (hb.mono HB6.out.size))
    clear hb q0 q1 q2 r0 r1 s0 s1
    obtain ⟨q0, q1, q2, r0, r1, s0, s1⟩ := HRD.out w7 HD7.out
    go_wp2_with fail
    refine (HC3.out _ HB7.out).mono ?_
    rintro e w8 ⟨rfl, hb⟩
    have HD8 := Lib.hid (HD7.out.trans (hb.mono HD7.out.size))
    have HB8 := Lib.hid (HB7.out.trans (hb.mono HB7.out.size))
    clear hb q0 q1 q2 r0 r1 s0 s1
    obtain ⟨q0, q1, q2, r0, r1, s0, s1⟩ := HRD.out w8 HD8.out
    go_wp2_with fail
    refine (HC4.out _ HB8.out).mono ?_
    rintro e w9 ⟨rfl, hb⟩
    have HD9 := Lib.hid (HD8.out.trans (hb.mono HD8.out.size))
    have HB9 := Lib.hid (HB8.out.trans (hb.mono HB8.out.size))
    clear hb q0 q1 q2 r0 r1 s0 s1
    obtain ⟨q0, q1, q2, r0, r1, s0, s1⟩ := HRD.out w9 HD9.out
    go_wp2_with fail
    go_ret
    exact ⟨rfl, HB9.out⟩
  · rw [decide_eq_true (show n ≤ min n 200 by omega)] at HC1
    rw [decide_eq_false (show ¬ t ≤ min t 200 by omega)] at HC2
    have HC3 := Lib.hid (HC3.out hn3)
    have e1 : wrap64 (n - 1) = n - 1 := w64 (by omega)
    obtain ⟨hn4, hn5⟩ := hn3
    clear HC4
    obtain ⟨q0, q1, q2, r0, r1, s0, s1⟩ := HRD.out w5 HD5.out
    go_wp2_with fail
    refine (HC1.out _ HB5.out).mono ?_
    rintro e w6 ⟨rfl, hb⟩
    have HD6 := Lib.hid (HD5.out.trans (hb.mono HD5.out.size))
    have HB6 := Lib.hid (HB5.out.trans (hb.mono HB5.out.size))
    clear hb q0 q1 q2 r0 r1 s0 s1
    obtain ⟨q0, q1, q2, r0, r1, s0, s1⟩ := HRD.out w6 HD6.out
    go_wp2_with fail
    refine (HC2.out _ HB6.out).mono ?_
    rintro e w7 ⟨rfl, hb⟩
    have HD7 := Lib.hid (HD6.out.trans (hb.mono HD6.out.size))
    have HB7 := Lib.hid (HB6.out.trans (hb.mono HB6.out.size))
    clear hb q0 q1 q2 r0 r1 s0 s1
    obtain ⟨q0, q1, q2, r0, r1, s0, s1⟩ := HRD.out w7 HD7.out
    go_wp2_with fail
    refine (HC3.out _ HB7.out).mono ?_
    rintro e w8 ⟨rfl, hb⟩
    have HD8 := Lib.hid (HD7.out.trans (hb.mono HD7.out.size))
    have HB8 := Lib.hid (HB7.out.trans (hb.mono HB7.out.size))
    clear hb q0 q1 q2 r0 r1 s0 s1
    obtain ⟨q0, q1, q2, r0, r1, s0, s1⟩ := HRD.out w8 HD8.out
    go_wp2_with fail
    go_ret
    exact ⟨rfl, HB8.out⟩
  · rw [decide_eq_false (show ¬ n ≤ min n 200 by omega)] at HC1
    rw [decide_eq_true (show t ≤ min t 200 by omega)] at HC2
    clear HC3
    clear HC4
    subst ht3
    obtain ⟨q0, q1, q2, r0, r1, s0, s1⟩ := HRD.out w5 HD5.out
    go_wp2_with fail
    refine (HC1.out _ HB5.out).mono ?_
    rintro e w6 ⟨rfl, hb⟩
    have HD6 := Lib.hid (HD5.out.trans (hb.mono HD5.out.size))
    have HB6 := Lib.hid (HB5.out.trans (hb.mono HB5.out.size))
    clear hb q0 q1 q2 r0 r1 s0 s1
    obtain ⟨q0, q1, q2, r0, r1, s0, s1⟩ := HRD.out w6 HD6.out
    go_wp2_with fail
    refine (HC2.out _ HB6.out).mono ?_
    rintro e w7 ⟨rfl, hb⟩
    have HD7 := Lib.hid (HD6.out.trans (hb.mono HD6.out.size))
    have HB7 := Lib.hid (HB6.out.trans (hb.mono HB6.out.size))
    clear hb q0 q1 q2 r0 r1 s0 s1
    obtain ⟨q0, q1, q2, r0, r1, s0, s1⟩ := HRD.out w7 HD7.out
    go_wp2_with fail
    go_ret
    exact ⟨rfl, HB7.out⟩
  · rw [decide_eq_false (show ¬ n ≤ min n 200 by omega)] at HC1
    rw [decide_eq_true (show t ≤ min t 200 by omega)] at HC2
    clear HC3
    have HC4 := Lib.hid (HC4.out ht3)
    have e2 : wrap64 (t - 1) = t - 1 := w64 (by omega)
    obtain ⟨ht4, ht5⟩ := ht3
    obtain ⟨q0, q1, q2, r0, r1, s0, s1⟩ := HRD.out w5 HD5.out
    go_wp2_with fail
    refine (HC1.out _ HB5.out).mono ?_
    rintro e w6 ⟨rfl, hb⟩
    have HD6 := Lib.hid (HD5.out.trans (hb.mono HD5.out.size))
    have HB6 := Lib.hid (HB5.out.trans (hb.mono HB5.out.size))
    clear hb q0 q1 q2 r0 r1 s0 s1
    obtain ⟨q0, q1, q2, r0, r1, s0, s1⟩ := HRD.out w6 HD6.out
    go_wp2_with fail
    refine (HC2.out _ HB6.out).mono ?_
    rintro e w7 ⟨rfl, hb⟩
    have HD7 := Lib.hid (HD6.out.trans (hb.mono HD6.out.size))
    have HB7 := Lib.hid (HB6.out.trans (hb.mono HB6.out.size))
    clear hb q0 q1 q2 r0 r1 s0 s1
    obtain ⟨q0, q1, q2, r0, r1, s0, s1⟩ := HRD.out w7 HD7.out
    go_wp2_with fail
    refine (HC4.out _ HB7.out).mono ?_
    rintro e w8 ⟨rfl, hb⟩
    have HD8 := Lib.hid (HD7.out.trans (hb.mono HD7.out.size))
    have HB8 := Lib.hid (HB7.out.trans (hb.mono HB7.out.size))
    clear hb q0 q1 q2 r0 r1 s0 s1
    obtain ⟨q0, q1, q2, r0, r1, s0, s1⟩ := HRD.out w8 HD8.out
    go_wp2_with fail
    go_ret
    exact ⟨rfl, HB8.out⟩
  · rw [decide_eq_false (show ¬ n ≤ min n 200 by omega)] at HC1
    rw [decide_eq_false (show ¬ t ≤ min t 200 by omega)] at HC2
    clear HC3
    clear HC4
    obtain ⟨q0, q1, q2, r0, r1, s0, s1⟩ := HRD.out w5 HD5.out
    go_wp2_with fail
    refine (HC1.out _ HB5.out).mono ?_
    rintro e w6 ⟨rfl, hb⟩
    have HD6 := Lib.hid (HD5.out.trans (hb.mono HD5.out.size))
    have HB6 := Lib.hid (HB5.out.trans (hb.mono HB5.out.size))
    clear hb q0 q1 q2 r0 r1 s0 s1
    obtain ⟨q0, q1, q2, r0, r1, s0, s1⟩ := HRD.out w6 HD6.out
    go_wp2_with fail
    refine (HC2.out _ HB6.out).mono ?_
    rintro e w7 ⟨rfl, hb⟩
    have HD7 := Lib.hid (HD6.out.trans (hb.mono HD6.out.size))
    have HB7 := Lib.hid (HB6.out.trans (hb.mono HB6.out.size))
    clear hb q0 q1 q2 r0 r1 s0 s1
    obtain ⟨q0, q1, q2, r0, r1, s0, s1⟩ := HRD.out w7 HD7.out
    go_wp2_with fail
    go_ret
    exact ⟨rfl, HB7.out⟩
theorem least_card (wd hg : Int) (o : Value) (g : List Int) (a1 a2 hh b1 b2 : Int) (w : World) (hv : INRow w o g) (hl : g.length ≤ 9223372036854775807) (_ : -9223372036854775808 ≤ hh ∧ hh ≤ 9223372036854775807) :
    Calls Try.prog 10 #[mpV wd hg o, .agg #[.int .i64 a1, .int .i64 a2], .int .i64 hh, .agg #[.int .i64 b1, .int .i64 b2]] w fun e w' => e = .returned (.bool true) ∧ Below w.heap.size w w' :=
  least_law wd hg o g a1 a2 hh b1 b2 w hv hl
end Go.Proofs.Ytkipncjagiidoaa
