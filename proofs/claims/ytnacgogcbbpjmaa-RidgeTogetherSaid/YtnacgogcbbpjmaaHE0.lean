/- The reference's small functions on maps: Valid, On, tall, at, lined, sight, size, placed, ceil, over. -/
import Derived.Test.YtnacgogcbbpjmaaHA4
import Derived.Test.YtnacgogcbbpjmaaHB0
set_option linter.unusedVariables false
set_option linter.unusedSimpArgs false
namespace Go.Proofs.Ytnacgogcbbpjmaa
open Go Go.RowKit

theorem rtall_any (n : Int) (w : World) : Calls Try.prog 33 #[.int .i64 n] w fun e w' => e = .returned (.bool (wiB n 0 200)) ∧ w' = w := by
  have HV : Hid (wiB n 0 200 = (decide (0 ≤ n) && decide (n ≤ 200))) := Lib.hid rfl
  by_cases h : 0 ≤ n
  · have HN : Hid (wiB n 0 200 = decide (n ≤ 200)) := Lib.hid (by rw [HV.out]; simp [h])
    go_enter Try.func33, Try.ntmps33
    go_wp2_with fail
    go_ret
    exact ⟨ret_bool' HN.out.symm, rfl⟩
  · have g : decide (0 ≤ n) = false := decide_eq_false h
    have HN : Hid (wiB n 0 200 = false) := Lib.hid (by rw [HV.out, g]; rfl)
    go_enter Try.func33, Try.ntmps33
    go_wp2_with fail
    go_ret
    exact ⟨ret_bool' HN.out.symm, rfl⟩
set_option maxRecDepth 100000 in
theorem rOn_any (wd hg : Int) (o : Value) (p : Pl) (w : World) : Calls Try.prog 80 #[mpV wd hg o, plV p] w fun e w' => e = .returned (.bool (onB wd hg p)) ∧ Below w.heap.size w w' := by
  obtain ⟨x, y⟩ := p
  have HV : Hid (onB wd hg (x, y) = (decide (0 ≤ x) && decide (x < wd) && decide (0 ≤ y) && decide (y < hg))) := Lib.hid rfl
  unfold mpV plV
  simp only
  have HB := Lib.hid (((Below.refl _ w).alloc (Nat.le_refl w.heap.size) (.cells #[.int .i64 wd, .int .i64 hg, o] 24)).alloc (by simp) (.cells #[.int .i64 x, .int .i64 y] 32))
  by_cases h1 : 0 ≤ x
  all_goals
    try have g1 : decide (0 ≤ x) = false := decide_eq_false h1
    by_cases h2 : x < wd
    all_goals
      try have g2 : decide (x < wd) = false := decide_eq_false h2
      by_cases h3 : 0 ≤ y
      all_goals
        try have g3 : decide (0 ≤ y) = false := decide_eq_false h3
        have HN : Hid (onB wd hg (x, y) = if 0 ≤ x ∧ x < wd ∧ 0 ≤ y then decide (y < hg) else false) := Lib.hid (by rw [HV.out]; simp [h1, h2, h3])
        go_enter Try.func80, Try.ntmps80
        go_wp2_with fail
        go_ret
        exact ⟨by rw [HN.out]; simp [h1, h2, h3] <;> omega, HB.out⟩
theorem rsize_any (n : Int) (w : World) (h : -1000000 ≤ n ∧ n ≤ 1000000) : Calls Try.prog 111 #[.int .i64 n] w fun e w' => e = .returned (.int .i64 (max n (-n))) ∧ w' = w := by
  have e1 : IntKind.i64.wrap (-n) = -n := IntWalk.i64_in _ (by omega)
  have w1 : wrap64 (-n) = -n := w64 (by omega)
  go_enter Try.func111, Try.ntmps111
  go_wp2_with fail
  go_ret
  exact ⟨rfl, rfl⟩
theorem info_pl2 : (Try.prog.info? 32).map (·.size) = some 2 := by kernel_rfl
/-- The place with a number of a column, or of a row. -/
def placeP (ax line k : Int) : Pl := if ax = 1 then (k, line) else (line, k)
set_option maxRecDepth 100000 in
theorem rplaced_any (ax line k : Int) (w : World) : Calls Try.prog 112 #[.int .i64 ax, .int .i64 line, .int .i64 k] w fun e w' => e = .returned (plV (placeP ax line k)) ∧ Below w.heap.size w w' := by
  have HP : Hid (placeP ax line k = if ax = 1 then (k, line) else (line, k)) := Lib.hid rfl
  unfold plV
  by_cases h : ax = 1
  · have HQ : Hid ((placeP ax line k).1 = k ∧ (placeP ax line k).2 = line) := Lib.hid (by rw [HP.out, if_pos h]; exact ⟨rfl, rfl⟩)
    rw [HQ.out.1, HQ.out.2]
    go_enter Try.func112, Try.ntmps112
    go_wp2_with fail
    refine bodyPost_ret (results_cell_row Try.results112 _ _ w.heap.size 32 #[.int .i64 k, .int .i64 line] (0, 0) _ rfl (heap_alloc_new _ _) Try.underlying32 rfl info_pl2) rfl ?_
    exact ⟨rfl, (Below.refl _ w).alloc (Nat.le_refl _) _⟩
  · have HQ : Hid ((placeP ax line k).1 = line ∧ (placeP ax line k).2 = k) := Lib.hid (by rw [HP.out, if_neg h]; exact ⟨rfl, rfl⟩)
    rw [HQ.out.1, HQ.out.2]
    go_enter Try.func112, Try.ntmps112
    go_wp2_with fail
    refine bodyPost_ret (results_cell_row Try.results112 _ _ w.heap.size 32 #[.int .i64 line, .int .i64 k] (0, 0) _ rfl (heap_alloc_new _ _) Try.underlying32 rfl info_pl2) rfl ?_
    exact ⟨rfl, (Below.refl _ w).alloc (Nat.le_refl _) _⟩
set_option maxRecDepth 100000 in
set_option maxHeartbeats 1000000 in
theorem rat_any (wd hg : Int) (o : Value) (g : List Int) (p : Pl) (w : World) (hv : INRow w o g) (h1 : -9223372036854775808 ≤ p.2 * wd ∧ p.2 * wd ≤ 9223372036854775807) (h2 : 0 ≤ p.2 * wd + p.1 ∧ p.2 * wd + p.1 < g.length) (hl : g.length ≤ 9223372036854775807) :
    Calls Try.prog 102 #[mpV wd hg o, plV p] w fun e w' => e = .returned (.int .i64 (hAt g wd p)) ∧ Below w.heap.size w w' := by
  obtain ⟨x, y⟩ := p
  simp only at h1 h2
  have e1 : IntKind.i64.wrap (y * wd) = y * wd := IntWalk.i64_in _ (by omega)
  have e2 : IntKind.i64.wrap (y * wd + x) = y * wd + x := IntWalk.i64_in _ (by omega)
  have w1 : wrap64 (y * wd) = y * wd := w64 (by omega)
  have w2 : wrap64 (y * wd + x) = y * wd + x := w64 (by omega)
  obtain ⟨k, hk⟩ : ∃ k : Nat, y * wd + x = k := ⟨(y * wd + x).toNat, by omega⟩
  have HV : Hid (hAt g wd (x, y) = g.getD k 0) := Lib.hid (by unfold hAt; rw [hk]; rfl)
  rw [hk] at h2 e2 w2
  obtain ⟨a, cap, rfl, hc⟩ := hv.form
  obtain ⟨b, off, rfl, hb, c0⟩ := hc k (by omega)
  obtain ⟨v, hv0⟩ : ∃ v, g.getD k 0 = v := ⟨_, rfl⟩
  rw [hv0] at c0 HV
  have HB := Lib.hid (((Below.refl _ w).alloc (Nat.le_refl w.heap.size) (.cells #[.int .i64 wd, .int .i64 hg, .slice (some ⟨b, off, none⟩) g.length cap] 24)).alloc (by simp) (.cells #[.int .i64 x, .int .i64 y] 32))
  have q0 := (HB.out.cell (p := ⟨b, _, none⟩) hb).trans c0
  have hki : (k : Int) < g.length := h2.2
  have hk0 : (0 : Int) ≤ k := h2.1
  obtain ⟨s, hs⟩ : ∃ s, y * wd = s := ⟨_, rfl⟩
  rw [hs] at hk e1 w1
  rw [HV.out]
  unfold mpV plV
  clear c0 hc hv hv0
  go_enter Try.func102, Try.ntmps102
  go_wp2_with fail
  go_ret
  exact ⟨rfl, HB.out⟩
set_option maxRecDepth 100000 in
set_option maxHeartbeats 1000000 in
theorem rValid_any (wd hg : Int) (o : Value) (g : List Int) (w : World) (hv : INRow w o g) (hl : g.length ≤ 9223372036854775807) :
    Calls Try.prog 79 #[mpV wd hg o] w fun e w' => e = .returned (.bool (vmB wd hg g)) ∧ Below w.heap.size w w' := by
  obtain ⟨a, cap, rfl, hc⟩ := hv.form
  have HC := Lib.hid hc
  have HV : Hid (vmB wd hg g = (wiB wd 1 49 && wiB hg 1 49 && decide ((g.length : Int) = wd * hg) && g.all fun n => wiB n 0 4000)) := Lib.hid rfl
  clear hc hv
  unfold mpV
  have HB0 := Lib.hid ((Below.refl _ w).alloc (Nat.le_refl w.heap.size) (.cells #[.int .i64 wd, .int .i64 hg, .slice a g.length cap] 24))
  by_cases hm : 1 ≤ wd ∧ wd ≤ 49 ∧ 1 ≤ hg ∧ hg ≤ 49
  case neg =>
    have HN : Hid (vmB wd hg g = false) := Lib.hid (by
      rw [HV.out]
      have : (wiB wd 1 49 && wiB hg 1 49) = false := by
        rw [Bool.eq_false_iff]; unfold wiB
        simp only [ne_eq, Bool.and_eq_true, decide_eq_true_eq]
        omega
      rw [this]; rfl)
    rw [HN.out]
    by_cases h1 : wd < 1
    · clear hm
      go_enter Try.func79, Try.ntmps79
      go_wp2_with fail
      go_ret
      exact ⟨rfl, HB0.out⟩
    have g1 : decide (wd < 1) = false := decide_eq_false h1
    by_cases h2 : 49 < wd
    · clear hm
      go_enter Try.func79, Try.ntmps79
      go_wp2_with fail
      go_ret
      exact ⟨rfl, HB0.out⟩
    have g2 : decide (49 < wd) = false := decide_eq_false h2
    by_cases h3 : hg < 1
    · clear hm
      go_enter Try.func79, Try.ntmps79
      go_wp2_with fail
      go_ret
      exact ⟨rfl, HB0.out⟩
    have g3 : decide (hg < 1) = false := decide_eq_false h3
    have h4 : 49 < hg := by omega
    clear hm
    go_enter Try.func79, Try.ntmps79
    go_wp2_with fail
    go_ret
    exact ⟨rfl, HB0.out⟩
  have hp0 : 0 ≤ wd * hg := Int.mul_nonneg (by omega) (by omega)
  have hp1 : wd * hg ≤ 49 * 49 := Int.mul_le_mul hm.2.1 hm.2.2.2 (by omega) (by omega)
  have hwr : IntKind.i64.wrap (wd * hg) = wd * hg := IntWalk.i64_in _ (by omega)
  have hwr2 : wrap64 (wd * hg) = wd * hg := w64 (by omega)
  have HN0 : Hid (vmB wd hg g = (decide ((g.length : Int) = wd * hg) && g.all fun n => wiB n 0 4000)) := Lib.hid (by
    rw [HV.out]
    have : (wiB wd 1 49 && wiB hg 1 49) = true := by
      unfold wiB
      simp only [Bool.and_eq_true, decide_eq_true_eq]
      omega
    rw [this]; rfl)
  obtain ⟨m1, m2, m3, m4⟩ := hm
  by_cases h3 : (g.length : Int) = wd * hg
  case neg =>
    have HN : Hid (vmB wd hg g = false) := Lib.hid (by rw [HN0.out, decide_eq_false h3]; rfl)
    have g3 : ((g.length : Int) != wd * hg) = true := by simpa using h3
    rw [HN.out]
    clear h3 hp0 hp1
    go_enter Try.func79, Try.ntmps79
    go_wp2_with fail
    go_ret
    exact ⟨rfl, HB0.out⟩
  have HT0 : Hid (vmB wd hg g = g.all fun n => wiB n 0 4000) := Lib.hid (by rw [HN0.out, decide_eq_true h3]; rfl)
  have g3 : ((g.length : Int) != wd * hg) = false := by simpa using h3
  clear h3 hp0 hp1
  go_enter Try.func79, Try.ntmps79
  go_wp2_with fail
  clear m1 m2 m3 m4 hwr hwr2 g3
  have HG0 : Hid ((w.alloc (.cells #[.int .i64 wd, .int .i64 hg, .slice a g.length cap] 24)).heap[w.heap.size]? = some (.cells #[.int .i64 wd, .int .i64 hg, .slice a g.length cap] 24 (0, 0))) := Lib.hid (heap_alloc_new _ _)
  go_loopw [3] (fun i wr => ∃ (k : Nat), k ≤ g.length ∧ i = .int .i64 k ∧ Hid (vmB wd hg g = (g.drop k).all fun n => wiB n 0 4000) ∧ wr = w.alloc (.cells #[.int .i64 wd, .int .i64 hg, .slice a g.length cap] 24)) (fun i _ => g.length - (intOf i).toNat)
  case atStart => exact ⟨0, Nat.zero_le _, rfl, HT0, rfl⟩
  case round =>
    obtain ⟨k, hk, rfl, hT, rfl⟩ := hrel
    have q2 := cellH HG0.out 2
    simp at q2
    by_cases hkl : k < g.length
    · obtain ⟨b, off, rfl, hb, c0⟩ := HC.out k hkl
      have hki : (k : Int) < g.length := by omega
      have hk0 : (0 : Int) ≤ k := by omega
      have e0 := (HB0.out.cell (p := ⟨b, _, none⟩) hb).trans c0
      have hD : Hid (((g.drop k).all fun n => wiB n 0 4000) = (wiB (g.getD k 0) 0 4000 && (g.drop (k + 1)).all fun n => wiB n 0 4000)) := Lib.hid (by
        rw [all_drop _ hkl, List.getD_eq_getElem?_getD, List.getElem?_eq_getElem hkl]; rfl)
      obtain ⟨x, hx⟩ : ∃ x, g.getD k 0 = x := ⟨_, rfl⟩
      rw [hx] at e0 hD
      clear c0 hb hx
      by_cases hr : 0 ≤ x ∧ x ≤ 4000
      · have HN : Hid (vmB wd hg g = (g.drop (k + 1)).all fun n => wiB n 0 4000) := Lib.hid (by
          rw [hT.out, hD.out, show wiB x 0 4000 = true by unfold wiB; simpa using hr]; rfl)
        obtain ⟨r1, r2⟩ := hr
        clear hD
        go_wp2_with fail
        go_roundw
        case rel => exact ⟨k + 1, by omega, by go_num, HN, trivial⟩
        case measure => simp [intOf]; omega
      · have HN : Hid (vmB wd hg g = false) := Lib.hid (by
          rw [hT.out, hD.out, show wiB x 0 4000 = false by unfold wiB; rw [Bool.eq_false_iff]; simpa using hr]; rfl)
        clear hD
        by_cases h5 : x < 0
        · clear hr
          go_wp2_with fail
          go_ret
          exact ⟨ret_bool' HN.out.symm, HB0.out⟩
        · have h6 : 4000 < x := by omega
          have g5 : decide (x < 0) = false := decide_eq_false h5
          clear hr
          go_wp2_with fail
          go_ret
          exact ⟨ret_bool' HN.out.symm, HB0.out⟩
    · obtain rfl : k = g.length := by omega
      have HN : Hid (vmB wd hg g = true) := Lib.hid (by rw [hT.out, List.drop_length]; rfl)
      go_wp2_with fail
      go_ret
      exact ⟨ret_bool' HN.out.symm, HB0.out⟩
end Go.Proofs.Ytnacgogcbbpjmaa

/-! The reference's over, lined and sight. -/
set_option linter.unusedVariables false
set_option linter.unusedSimpArgs false
namespace Go.Proofs.Ytnacgogcbbpjmaa
open Go Go.RowKit

set_option maxRecDepth 100000 in
theorem rover_any (c0 c1 n d gn gd low high : Int) (w : World) (e1 : IntKind.i64.wrap (gn * d) = gn * d) (e2 : IntKind.i64.wrap (d - n) = d - n) (e3 : IntKind.i64.wrap (low * (d - n)) = low * (d - n)) (e4 : IntKind.i64.wrap (high * n) = high * n)
    (e5 : IntKind.i64.wrap (low * (d - n) + high * n) = low * (d - n) + high * n) (e6 : IntKind.i64.wrap ((low * (d - n) + high * n) * gd) = (low * (d - n) + high * n) * gd) :
    Calls Try.prog 101 #[.agg #[.int .i64 c0, .int .i64 c1, .int .i64 n, .int .i64 d, .int .i64 gn, .int .i64 gd], .int .i64 low, .int .i64 high] w fun e w' => e = .returned (.bool (decide ((low * (d - n) + high * n) * gd < gn * d))) ∧ Below w.heap.size w w' := by
  have HB := Lib.hid ((Below.refl _ w).alloc (Nat.le_refl w.heap.size) (.cells #[.int .i64 c0, .int .i64 c1, .int .i64 n, .int .i64 d, .int .i64 gn, .int .i64 gd] 71))
  go_enter Try.func101, Try.ntmps101
  go_wp2_with fail
  go_ret
  exact ⟨rfl, HB.out⟩
theorem three_reads (w : World) (wd hg : Int) (o : Value) (a b : Pl) : ∃ W1, W1 = ((w.alloc (.cells #[.int .i64 wd, .int .i64 hg, o] 24)).alloc (.cells #[.int .i64 a.1, .int .i64 a.2] 32)).alloc (.cells #[.int .i64 b.1, .int .i64 b.2] 32) ∧ Below w.heap.size w W1 ∧ W1.heap.size = w.heap.size + 3 ∧
    ∀ W', Below W1.heap.size W1 W' → W'.cell? ⟨w.heap.size, 0, none⟩ = some (.int .i64 wd) ∧ W'.cell? ⟨w.heap.size, 1, none⟩ = some (.int .i64 hg) ∧ W'.cell? ⟨w.heap.size, 2, none⟩ = some o ∧ W'.cell? ⟨w.heap.size + 1, 0, none⟩ = some (.int .i64 a.1) ∧ W'.cell? ⟨w.heap.size + 1, 1, none⟩ = some (.int .i64 a.2) ∧
      W'.cell? ⟨w.heap.size + 2, 0, none⟩ = some (.int .i64 b.1) ∧ W'.cell? ⟨w.heap.size + 2, 1, none⟩ = some (.int .i64 b.2) := by
  refine ⟨_, rfl, ((((Below.refl _ w).alloc (Nat.le_refl w.heap.size) (.cells #[.int .i64 wd, .int .i64 hg, o] 24)).alloc (by simp) (.cells #[.int .i64 a.1, .int .i64 a.2] 32)).alloc (by simp; omega) (.cells #[.int .i64 b.1, .int .i64 b.2] 32)), by simp, fun W' h => ?_⟩
  obtain ⟨m0, m1, m2, hs, _⟩ := three_cells w #[.int .i64 wd, .int .i64 hg, o] #[.int .i64 a.1, .int .i64 a.2] #[.int .i64 b.1, .int .i64 b.2] 24 32 32 (W := W') h
  exact ⟨cellH m0 0, cellH m0 1, cellH m0 2, cellH m1 0, cellH m1 1, cellH m2 0, cellH m2 1⟩
theorem lnE_two' (wd hg : Int) (g : List Int) (a b : Pl) (u r : Int) : lnE wd hg g a b [u, r] = if lnE wd hg g a b [] = 0 then (if (wiB u 0 200 && wiB r 0 200) = true then 0 else 1) else 1 := by
  unfold lnE vlB tallB
  simp only [List.all_cons, List.all_nil, Bool.and_true]
  cases vmB wd hg g <;> cases onB wd hg a <;> cases onB wd hg b <;> simp
end Go.Proofs.Ytnacgogcbbpjmaa
