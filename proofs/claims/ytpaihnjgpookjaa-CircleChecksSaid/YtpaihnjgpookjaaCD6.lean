/- Package firetowerref05: Widen. -/
import Derived.Test.YtpaihnjgpookjaaCD3
import Derived.Test.YtpaihnjgpookjaaCA6
set_option linter.unusedVariables false
set_option linter.unusedSimpArgs false
namespace Go.Proofs.Ytpaihnjgpookjaa
open Go Go.RowKit

theorem info_mt3 : (Try.prog.info? 29).map (·.size) = some 3 := by kernel_rfl
set_option maxRecDepth 100000 in
set_option maxHeartbeats 4000000 in
theorem pWiden_any (f t n : Int) (w : World) : Calls Try.prog 11 #[.agg #[.int .i64 f, .int .i64 t], .int .i64 n] w fun e w' => e = .returned (.agg #[.int .i64 (wdF f t n), .int .i64 (wdT f t n), .bool (wdB f t n)]) ∧ Below w.heap.size w w' := by
  have H1 := Lib.hid (fun w' => pRight_any f t w')
  have H2 := Lib.hid (fun w' => pwithin_any n 0 900 w')
  have H3 := Lib.hid (fun w' => pOpening_any f t w')
  have HT1 := Lib.hid (fun w' => pTurn_any (f - n) w')
  have HT2 := Lib.hid (fun w' => pTurn_any (t + n) w')
  have HVW := Lib.hid (vw_ok (f := f) (t := t))
  have HCI : Hid (ciB n 0 900 = true ↔ 0 ≤ n ∧ n ≤ 900) := Lib.hid ci_iff
  have HBB : Hid (wdB f t n = (vwB f t && decide (0 ≤ n) && decide (n ≤ (900 - opI f t) / 2))) := Lib.hid rfl
  have HF : Hid (wdF f t n = if wdB f t n = true then (f - n) % 3600 else 0) := Lib.hid rfl
  have HT : Hid (wdT f t n = if wdB f t n = true then (t + n) % 3600 else 0) := Lib.hid rfl
  obtain ⟨vw, hvw⟩ : ∃ z, vwB f t = z := ⟨_, rfl⟩
  obtain ⟨fe, hfe⟩ : ∃ z, ciB n 0 900 = z := ⟨_, rfl⟩
  obtain ⟨o, ho⟩ : ∃ z, opI f t = z := ⟨_, rfl⟩
  obtain ⟨B, hB⟩ : ∃ z, wdB f t n = z := ⟨_, rfl⟩
  obtain ⟨F, hF⟩ : ∃ z, wdF f t n = z := ⟨_, rfl⟩
  obtain ⟨T, hT⟩ : ∃ z, wdT f t n = z := ⟨_, rfl⟩
  rw [hvw] at H1 HBB HVW
  rw [hfe] at H2 HCI
  rw [ho] at H3 HBB HVW
  rw [hB] at HBB HF HT ⊢
  rw [hF] at HF ⊢
  rw [hT] at HT ⊢
  have HA := Lib.hid (fun W' => two_cells w #[.int .i64 f, .int .i64 t] #[.int .i64 0, .int .i64 0, .bool false] 23 29 (W := W'))
  have HB0 := Lib.hid (Below.refl ((w.alloc (.cells #[.int .i64 f, .int .i64 t] 23)).alloc (.cells #[.int .i64 0, .int .i64 0, .bool false] 29)).heap.size ((w.alloc (.cells #[.int .i64 f, .int .i64 t] 23)).alloc (.cells #[.int .i64 0, .int .i64 0, .bool false] 29)))
  obtain ⟨Z, hZ⟩ : ∃ Z, (w.alloc (.cells #[.int .i64 f, .int .i64 t] 23)).alloc (.cells #[.int .i64 0, .int .i64 0, .bool false] 29) = Z := ⟨_, rfl⟩
  rw [hZ] at HA HB0
  have HZ := Lib.hid hZ
  clear hZ hvw ho hB hF hT hfe
  go_enter Try.func11, Try.ntmps11
  go_wp2_with fail
  rw [HZ.out]
  refine (H1.out _).mono ?_
  rintro e w1 ⟨rfl, hb1⟩
  have HB1 := Lib.hid hb1
  clear hb1
  go_wp2_with fail
  refine (H2.out _).mono ?_
  rintro e w2 ⟨rfl, rfl⟩
  obtain ⟨x1, x2, _, xb⟩ := HA.out _ HB1.out
  have HX2 := Lib.hid x2
  have HXB := Lib.hid xb
  have q0 := cellH x1 0
  have q1 := cellH x1 1
  have r0 := cellH x2 0
  have r1 := cellH x2 1
  have r2 := cellH x2 2
  have rf := freeH x2
  simp only [List.getElem?_toArray, List.getElem?_cons_zero, List.getElem?_cons_succ] at q0 q1 r0 r1 r2
  clear x1 x2 xb
  cases vw
  · have HN : Hid (B = false) := Lib.hid HBB.out
    go_wp2_with fail
    obtain ⟨z1, z2⟩ := set3 HX2.out HXB.out (by omega) (.int .i64 0) (.int .i64 0) (.bool false)
    refine bodyPost_ret (results_cell_row Try.results11 _ _ (w.heap.size + 1) 29 _ (0, 0) _ rfl z1 Try.underlying29 rfl info_mt3) rfl ?_
    exact ⟨by rw [HF.out, HT.out, HN.out]; rfl, z2⟩
  cases fe
  · have HN : Hid (B = false) := Lib.hid (by
      rw [HBB.out]
      have h := HCI.out
      have h2 := HVW.out rfl
      by_cases h1 : 0 ≤ n
      · rw [decide_eq_false (show ¬ n ≤ (900 - o) / 2 by intro h3; have := h.2 ⟨h1, by omega⟩; simp at this)]; simp
      · rw [decide_eq_false h1]; rfl)
    go_wp2_with fail
    obtain ⟨z1, z2⟩ := set3 HX2.out HXB.out (by omega) (.int .i64 0) (.int .i64 0) (.bool false)
    refine bodyPost_ret (results_cell_row Try.results11 _ _ (w.heap.size + 1) 29 _ (0, 0) _ rfl z1 Try.underlying29 rfl info_mt3) rfl ?_
    exact ⟨by rw [HF.out, HT.out, HN.out]; rfl, z2⟩
  have hn := HCI.out.1 rfl
  have hv := HVW.out rfl
  have e1 : IntKind.i64.wrap (2 * n) = 2 * n := IntWalk.i64_in _ (by omega)
  have e2 : IntKind.i64.wrap (o + 2 * n) = o + 2 * n := IntWalk.i64_in _ (by omega)
  have e3 : IntKind.i64.wrap (f - n) = f - n := IntWalk.i64_in _ (by omega)
  have e4 : IntKind.i64.wrap (t + n) = t + n := IntWalk.i64_in _ (by omega)
  have HNV := Lib.hid (And.intro hn hv)
  clear hn hv
  go_wp2_with fail
  refine (H3.out _).mono ?_
  rintro e w4 ⟨rfl, hb4⟩
  have HB4 := Lib.hid (HB1.out.trans (hb4.mono HB1.out.size))
  clear hb4 q0 q1 r0 r1 r2 rf HX2 HXB
  obtain ⟨x1, x2, _, xb⟩ := HA.out _ HB4.out
  have HX2 := Lib.hid x2
  have HXB := Lib.hid xb
  have q0 := cellH x1 0
  have q1 := cellH x1 1
  have r0 := cellH x2 0
  have r1 := cellH x2 1
  have r2 := cellH x2 2
  have rf := freeH x2
  simp only [List.getElem?_toArray, List.getElem?_cons_zero, List.getElem?_cons_succ] at q0 q1 r0 r1 r2
  clear x1 x2 xb
  by_cases hw : 900 < o + 2 * n
  · have HN : Hid (B = false) := Lib.hid (by
      rw [HBB.out, decide_eq_false (show ¬ n ≤ (900 - o) / 2 by omega)]; simp)
    go_wp2_with fail
    obtain ⟨z1, z2⟩ := set3 HX2.out HXB.out (by omega) (.int .i64 0) (.int .i64 0) (.bool false)
    refine bodyPost_ret (results_cell_row Try.results11 _ _ (w.heap.size + 1) 29 _ (0, 0) _ rfl z1 Try.underlying29 rfl info_mt3) rfl ?_
    exact ⟨by rw [HF.out, HT.out, HN.out]; rfl, z2⟩
  · have HN : Hid (B = true) := Lib.hid (by
      rw [HBB.out, decide_eq_true (show n ≤ (900 - o) / 2 by omega), decide_eq_true HNV.out.1.1]; rfl)
    go_wp2_with fail
    have HK : Hid (∀ w', Below w4.heap.size w4 w' → w'.cell? ⟨w.heap.size, 0, none⟩ = some (.int .i64 f) ∧ w'.cell? ⟨w.heap.size, 1, none⟩ = some (.int .i64 t)) := Lib.hid (fun w' h => by
      have x0 := (HA.out w' (HB4.out.trans (h.mono HB4.out.size))).1
      exact ⟨cellH x0 0, cellH x0 1⟩)
    have C1 : Hid (∀ w', Below w4.heap.size w4 w' → Calls Try.prog 34 #[.int .i64 (f - n)] w' fun e w'' => e = .returned (.int .i64 ((f - n) % 3600)) ∧ Below w4.heap.size w4 w'') := Lib.hid (fun w' h => (HT1.out w').mono fun e w'' ⟨he, hh⟩ => ⟨he, by rw [hh]; exact h⟩)
    have C2 : Hid (∀ w', Below w4.heap.size w4 w' → Calls Try.prog 34 #[.int .i64 (t + n)] w' fun e w'' => e = .returned (.int .i64 ((t + n) % 3600)) ∧ Below w4.heap.size w4 w'') := Lib.hid (fun w' h => (HT2.out w').mono fun e w'' ⟨he, hh⟩ => ⟨he, by rw [hh]; exact h⟩)
    clear q0 q1 r0 r1 r2 rf HX2 HXB
    refine wp_region_turn 12 (fun _ w' => Below w4.heap.size w4 w') (by kernel_rfl) (by kernel_rfl) ((Below.refl _ w4).drew) ?_
    simp only [List.take_succ_cons, List.take_zero, List.drop_succ_cons, List.drop_zero]
    iterate 12
      (first
        | (apply turnC_step (by rfl); (intro w' hw'; obtain ⟨q0, q1⟩ := HK.out w' hw'; go_simp; first | with_reducible exact ⟨hw', rfl⟩ | with_reducible exact rfl | with_reducible exact ⟨hw', congrArg (Value.int .i64) e3⟩ | with_reducible exact ⟨hw', congrArg (Value.int .i64) e4⟩))
        | (apply turnC_step (by rfl); (intro w' hw'; go_simp; first | with_reducible exact C1.out w' hw' | with_reducible exact C2.out w' hw')))
      simp only [Act.put, List.setIfInBounds_toArray, List.set_cons_succ, List.set_cons_zero]
    intro listed w5 _ hw5
    have HB5 := Lib.hid (HB4.out.trans (hw5.mono HB4.out.size))
    clear hw5 HK C1 C2
    obtain ⟨x1, x2, _, xb⟩ := HA.out _ HB5.out
    have HX2 := Lib.hid x2
    have HXB := Lib.hid xb
    have r0 := cellH x2 0
    have r1 := cellH x2 1
    have r2 := cellH x2 2
    have rf := freeH x2
    simp only [List.getElem?_toArray, List.getElem?_cons_zero, List.getElem?_cons_succ] at r0 r1 r2
    clear x1 x2 xb
    go_wp2_with fail
    obtain ⟨z1, z2⟩ := set3 HX2.out HXB.out (by omega) (.int .i64 ((f - n) % 3600)) (.int .i64 ((t + n) % 3600)) (.bool true)
    refine bodyPost_ret (results_cell_row Try.results11 _ _ (w.heap.size + 1) 29 _ (0, 0) _ rfl z1 Try.underlying29 rfl info_mt3) rfl ?_
    exact ⟨by rw [HF.out, HT.out, HN.out]; rfl, z2⟩
end Go.Proofs.Ytpaihnjgpookjaa
