/- Small functions of package ridge: within, validTall, validHeight, validMap, On, indexOf, heightAt, validLine, axes, part. -/
import Derived.Test.YtnacgogcbbpjmaaHA0
set_option linter.unusedVariables false
set_option linter.unusedSimpArgs false
namespace Go.Proofs.Ytnacgogcbbpjmaa
open Go Go.RowKit

abbrev Pl := Int × Int
def plV (p : Pl) : Value := .agg #[.int .i64 p.1, .int .i64 p.2]
def mpV (wd hg : Int) (o : Value) : Value := .agg #[.int .i64 wd, .int .i64 hg, o]
def wiB (n a b : Int) : Bool := decide (a ≤ n) && decide (n ≤ b)

theorem within_any (n a b : Int) (w : World) : Calls Try.prog 36 #[.int .i64 n, .int .i64 a, .int .i64 b] w fun e w' => e = .returned (.bool (wiB n a b)) ∧ w' = w := by
  have HV : Hid (wiB n a b = (decide (a ≤ n) && decide (n ≤ b))) := Lib.hid rfl
  by_cases h : a ≤ n
  all_goals
    try have g : decide (a ≤ n) = false := decide_eq_false h
    go_enter Try.func36, Try.ntmps36
    go_wp2_with fail
    go_ret
    exact ⟨by rw [HV.out]; simp [h] <;> omega, rfl⟩
theorem validTall_any (n : Int) (w : World) : Calls Try.prog 24 #[.int .i64 n] w fun e w' => e = .returned (.bool (wiB n 0 200)) ∧ w' = w := by
  go_enter Try.func24, Try.ntmps24
  go_wp2_with fail
  refine (within_any _ _ _ _).mono ?_
  rintro e w1 ⟨rfl, rfl⟩
  go_wp2_with fail
  go_ret
  exact ⟨rfl, rfl⟩
theorem validHeight_any (n : Int) (w : World) : Calls Try.prog 84 #[.int .i64 n] w fun e w' => e = .returned (.bool (wiB n 0 4000)) ∧ w' = w := by
  go_enter Try.func84, Try.ntmps84
  go_wp2_with fail
  refine (within_any _ _ _ _).mono ?_
  rintro e w1 ⟨rfl, rfl⟩
  go_wp2_with fail
  go_ret
  exact ⟨rfl, rfl⟩

/-- A place lies on a map. -/
def onB (wd hg : Int) (p : Pl) : Bool := decide (0 ≤ p.1) && decide (p.1 < wd) && decide (0 ≤ p.2) && decide (p.2 < hg)
set_option maxRecDepth 100000 in
theorem On_any (wd hg : Int) (o : Value) (p : Pl) (w : World) : Calls Try.prog 61 #[mpV wd hg o, plV p] w fun e w' => e = .returned (.bool (onB wd hg p)) ∧ Below w.heap.size w w' := by
  obtain ⟨x, y⟩ := p
  have HV : Hid (onB wd hg (x, y) = (decide (0 ≤ x) && decide (x < wd) && decide (0 ≤ y) && decide (y < hg))) := Lib.hid rfl
  unfold mpV plV
  simp only
  have HB := Lib.hid (((Below.refl _ w).alloc (Nat.le_refl w.heap.size) (.cells #[.int .i64 wd, .int .i64 hg, o] 24)).alloc (by simp) (.cells #[.int .i64 x, .int .i64 y] 32))
  by_cases h1 : 0 ≤ x
  all_goals
    try have g1 : decide (0 ≤ x) = false := decide_eq_false h1
    by_cases h2 : x < wd
    all_goals
      try have g2 : decide (x < wd) = false := decide_eq_false h2
      by_cases h3 : 0 ≤ y
      all_goals
        try have g3 : decide (0 ≤ y) = false := decide_eq_false h3
        have HN : Hid (onB wd hg (x, y) = if 0 ≤ x ∧ x < wd ∧ 0 ≤ y then decide (y < hg) else false) := Lib.hid (by rw [HV.out]; simp [h1, h2, h3])
        go_enter Try.func61, Try.ntmps61
        go_wp2_with fail
        go_ret
        exact ⟨by rw [HN.out]; simp [h1, h2, h3] <;> omega, HB.out⟩

/-- A map is one. -/
def vmB (wd hg : Int) (g : List Int) : Bool := wiB wd 1 49 && wiB hg 1 49 && decide ((g.length : Int) = wd * hg) && g.all fun n => wiB n 0 4000
theorem vmB_ok {wd hg : Int} {g : List Int} (h : vmB wd hg g = true) : 1 ≤ wd ∧ wd ≤ 49 ∧ 1 ≤ hg ∧ hg ≤ 49 ∧ (g.length : Int) = wd * hg ∧ ∀ n ∈ g, 0 ≤ n ∧ n ≤ 4000 := by
  unfold vmB wiB at h
  simp only [Bool.and_eq_true, decide_eq_true_eq, List.all_eq_true] at h
  obtain ⟨⟨⟨⟨h1, h2⟩, h3, h4⟩, h5⟩, h6⟩ := h
  exact ⟨h1, h2, h3, h4, h5, fun n hn => h6 n hn⟩

set_option maxRecDepth 100000 in
set_option maxHeartbeats 1000000 in
theorem validMap_any (wd hg : Int) (o : Value) (g : List Int) (w : World) (hv : INRow w o g) (hl : g.length ≤ 9223372036854775807) :
    Calls Try.prog 60 #[mpV wd hg o] w fun e w' => e = .returned (.bool (vmB wd hg g)) ∧ Below w.heap.size w w' := by
  obtain ⟨a, cap, rfl, hc⟩ := hv.form
  have HC := Lib.hid hc
  have HV : Hid (vmB wd hg g = (wiB wd 1 49 && wiB hg 1 49 && decide ((g.length : Int) = wd * hg) && g.all fun n => wiB n 0 4000)) := Lib.hid rfl
  clear hc hv
  unfold mpV
  have HB0 := Lib.hid ((Below.refl _ w).alloc (Nat.le_refl w.heap.size) (.cells #[.int .i64 wd, .int .i64 hg, .slice a g.length cap] 24))
  have HW1 := Lib.hid (within_any wd 1 49)
  have HW2 := Lib.hid (within_any hg 1 49)
  cases h1 : wiB wd 1 49
  · rw [h1] at HW1
    have HN : Hid (vmB wd hg g = false) := Lib.hid (by rw [HV.out, h1]; rfl)
    clear h1
    go_enter Try.func60, Try.ntmps60
    go_wp2_with fail
    refine (HW1.out _).mono ?_
    rintro e w1 ⟨rfl, rfl⟩
    go_wp2_with fail
    go_ret
    exact ⟨ret_bool' HN.out.symm, HB0.out⟩
  rw [h1] at HW1
  cases h2 : wiB hg 1 49
  · rw [h2] at HW2
    have HN : Hid (vmB wd hg g = false) := Lib.hid (by rw [HV.out, h2]; simp)
    clear h1 h2
    go_enter Try.func60, Try.ntmps60
    go_wp2_with fail
    refine (HW1.out _).mono ?_
    rintro e w1 ⟨rfl, rfl⟩
    go_wp2_with fail
    refine (HW2.out _).mono ?_
    rintro e w1 ⟨rfl, rfl⟩
    go_wp2_with fail
    go_ret
    exact ⟨ret_bool' HN.out.symm, HB0.out⟩
  rw [h2] at HW2
  have HN0 : Hid (vmB wd hg g = (decide ((g.length : Int) = wd * hg) && g.all fun n => wiB n 0 4000)) := Lib.hid (by rw [HV.out, h1, h2]; simp)
  have hm : 1 ≤ wd ∧ wd ≤ 49 ∧ 1 ≤ hg ∧ hg ≤ 49 := by
    unfold wiB at h1 h2
    simp only [Bool.and_eq_true, decide_eq_true_eq] at h1 h2
    omega
  have hp0 : 0 ≤ wd * hg := Int.mul_nonneg (by omega) (by omega)
  have hp1 : wd * hg ≤ 49 * 49 := Int.mul_le_mul hm.2.1 hm.2.2.2 (by omega) (by omega)
  have hwr : IntKind.i64.wrap (wd * hg) = wd * hg := IntWalk.i64_in _ (by omega)
  clear h1 h2
  by_cases h3 : (g.length : Int) = wd * hg
  case neg =>
    have HN : Hid (vmB wd hg g = false) := Lib.hid (by rw [HN0.out, decide_eq_false h3]; rfl)
    have g3 : ((g.length : Int) != wd * hg) = true := by simpa using h3
    clear h3 hm hp0 hp1
    go_enter Try.func60, Try.ntmps60
    go_wp2_with fail
    refine (HW1.out _).mono ?_
    rintro e w1 ⟨rfl, rfl⟩
    go_wp2_with fail
    refine (HW2.out _).mono ?_
    rintro e w1 ⟨rfl, rfl⟩
    go_wp2_with fail
    go_ret
    exact ⟨ret_bool' HN.out.symm, HB0.out⟩
  have HT0 : Hid (vmB wd hg g = g.all fun n => wiB n 0 4000) := Lib.hid (by rw [HN0.out, decide_eq_true h3]; rfl)
  have g3 : ((g.length : Int) != wd * hg) = false := by simpa using h3
  clear h3 hm hp0 hp1
  go_enter Try.func60, Try.ntmps60
  go_wp2_with fail
  refine (HW1.out _).mono ?_
  rintro e w1 ⟨rfl, rfl⟩
  go_wp2_with fail
  refine (HW2.out _).mono ?_
  rintro e w1 ⟨rfl, rfl⟩
  go_wp2_with fail
  go_loopw [29] (fun i wr => ∃ (k : Nat), k ≤ g.length ∧ i = .int .i64 k ∧ Hid (vmB wd hg g = (g.drop k).all fun n => wiB n 0 4000) ∧ Hid (Below w.heap.size w wr)) (fun i _ => g.length - (intOf i).toNat)
  case atStart => exact ⟨0, Nat.zero_le _, rfl, HT0, HB0⟩
  case round =>
    obtain ⟨k, hk, rfl, hT, hB⟩ := hrel
    by_cases hkl : k < g.length
    · obtain ⟨b, off, rfl, hb, c0⟩ := HC.out k hkl
      have hki : (k : Int) < g.length := by omega
      have hk0 : (0 : Int) ≤ k := by omega
      have e0 := (hB.out.cell (p := ⟨b, _, none⟩) hb).trans c0
      have hD : Hid (((g.drop k).all fun n => wiB n 0 4000) = (wiB (g.getD k 0) 0 4000 && (g.drop (k + 1)).all fun n => wiB n 0 4000)) := Lib.hid (by
        rw [all_drop _ hkl, List.getD_eq_getElem?_getD, List.getElem?_eq_getElem hkl]; rfl)
      obtain ⟨x, hx⟩ : ∃ x, g.getD k 0 = x := ⟨_, rfl⟩
      rw [hx] at e0 hD
      have HH := Lib.hid (validHeight_any x)
      clear c0 hb hx
      cases q : wiB x 0 4000
      · rw [q] at HH
        have HN : Hid (vmB wd hg g = false) := Lib.hid (by rw [hT.out, hD.out, q]; rfl)
        clear hD q
        go_wp2_with fail
        refine (HH.out _).mono ?_
        rintro e w1 ⟨rfl, rfl⟩
        go_wp2_with fail
        go_ret
        exact ⟨ret_bool' HN.out.symm, hB.out⟩
      · rw [q] at HH
        have HN : Hid (vmB wd hg g = (g.drop (k + 1)).all fun n => wiB n 0 4000) := Lib.hid (by rw [hT.out, hD.out, q]; rfl)
        clear hD q
        go_wp2_with fail
        refine (HH.out _).mono ?_
        rintro e w1 ⟨rfl, rfl⟩
        go_wp2_with fail
        go_roundw
        case rel => exact ⟨k + 1, by omega, by go_num, HN, hB⟩
        case measure => simp [intOf]; omega
    · obtain rfl : k = g.length := by omega
      have HN : Hid (vmB wd hg g = true) := Lib.hid (by rw [hT.out, List.drop_length]; rfl)
      go_wp2_with fail
      go_ret
      exact ⟨ret_bool' HN.out.symm, hB.out⟩
end Go.Proofs.Ytnacgogcbbpjmaa

/-! indexOf, heightAt, axes, part and validLine of package ridge. -/
set_option linter.unusedVariables false
set_option linter.unusedSimpArgs false
namespace Go.Proofs.Ytnacgogcbbpjmaa
open Go Go.RowKit

set_option maxRecDepth 100000 in
theorem indexOf_any (wd hg : Int) (o : Value) (p : Pl) (w : World) (h1 : -9223372036854775808 ≤ p.2 * wd ∧ p.2 * wd ≤ 9223372036854775807) (h2 : -9223372036854775808 ≤ p.2 * wd + p.1 ∧ p.2 * wd + p.1 ≤ 9223372036854775807) :
    Calls Try.prog 88 #[mpV wd hg o, plV p] w fun e w' => e = .returned (.int .i64 (p.2 * wd + p.1)) ∧ Below w.heap.size w w' := by
  obtain ⟨x, y⟩ := p
  unfold mpV plV
  simp only at h1 h2 ⊢
  have HB := Lib.hid (((Below.refl _ w).alloc (Nat.le_refl w.heap.size) (.cells #[.int .i64 wd, .int .i64 hg, o] 24)).alloc (by simp) (.cells #[.int .i64 x, .int .i64 y] 32))
  have e1 : IntKind.i64.wrap (y * wd) = y * wd := IntWalk.i64_in _ (by omega)
  have e2 : IntKind.i64.wrap (y * wd + x) = y * wd + x := IntWalk.i64_in _ (by omega)
  clear h1 h2
  go_enter Try.func88, Try.ntmps88
  go_wp2_with fail
  go_ret
  exact ⟨rfl, HB.out⟩

/-- The height at a place. -/
def hAt (g : List Int) (wd : Int) (p : Pl) : Int := g.getD (p.2 * wd + p.1).toNat 0

set_option maxRecDepth 100000 in
set_option maxHeartbeats 1000000 in
theorem heightAt_any (wd hg : Int) (o : Value) (g : List Int) (p : Pl) (w : World) (hv : INRow w o g) (h1 : -9223372036854775808 ≤ p.2 * wd ∧ p.2 * wd ≤ 9223372036854775807) (h2 : 0 ≤ p.2 * wd + p.1 ∧ p.2 * wd + p.1 < g.length) (hl : g.length ≤ 9223372036854775807) :
    Calls Try.prog 76 #[mpV wd hg o, plV p] w fun e w' => e = .returned (.int .i64 (hAt g wd p)) ∧ Below w.heap.size w w' := by
  have HI := Lib.hid (fun w' => indexOf_any wd hg o p w' h1 (by omega))
  obtain ⟨k, hk⟩ : ∃ k : Nat, p.2 * wd + p.1 = k := ⟨(p.2 * wd + p.1).toNat, by omega⟩
  have HV : Hid (hAt g wd p = g.getD k 0) := Lib.hid (by unfold hAt; rw [hk]; rfl)
  rw [hk] at HI h2
  obtain ⟨a, cap, rfl, hc⟩ := hv.form
  obtain ⟨b, off, rfl, hb, c0⟩ := hc k (by omega)
  obtain ⟨v, hv0⟩ : ∃ v, g.getD k 0 = v := ⟨_, rfl⟩
  rw [hv0] at c0 HV
  obtain ⟨x, y⟩ := p
  unfold mpV plV at HI ⊢
  simp only at HI ⊢
  have HA := Lib.hid (fun W' => two_cells w #[.int .i64 wd, .int .i64 hg, .slice (some ⟨b, off, none⟩) g.length cap] #[.int .i64 x, .int .i64 y] 24 32 (W := W'))
  have HB0 := Lib.hid (((Below.refl _ w).alloc (Nat.le_refl w.heap.size) (.cells #[.int .i64 wd, .int .i64 hg, .slice (some ⟨b, off, none⟩) g.length cap] 24)).alloc (by simp) (.cells #[.int .i64 x, .int .i64 y] 32))
  obtain ⟨W1, hW1⟩ : ∃ W1, (w.alloc (.cells #[.int .i64 wd, .int .i64 hg, .slice (some ⟨b, off, none⟩) g.length cap] 24)).alloc (.cells #[.int .i64 x, .int .i64 y] 32) = W1 := ⟨_, rfl⟩
  rw [hW1] at HA HB0
  have HW1 := Lib.hid hW1
  have K0 : Hid (∀ W', Below W1.heap.size W1 W' → W'.cell? ⟨w.heap.size, 2, none⟩ = some (.slice (some ⟨b, off, none⟩) g.length cap) ∧ W'.cell? ⟨w.heap.size, 0, none⟩ = some (.int .i64 wd) ∧ W'.cell? ⟨w.heap.size, 1, none⟩ = some (.int .i64 hg) ∧
      W'.cell? ⟨w.heap.size + 1, 0, none⟩ = some (.int .i64 x) ∧ W'.cell? ⟨w.heap.size + 1, 1, none⟩ = some (.int .i64 y) ∧ W'.cell? ⟨b, off + k, none⟩ = some (.int .i64 v) ∧ Below w.heap.size w W') := Lib.hid (fun W' h => by
    obtain ⟨m0, m1, _, m3⟩ := HA.out W' h
    have q0 := cellH m0 0
    have q1 := cellH m0 1
    have q2 := cellH m0 2
    have r0 := cellH m1 0
    have r1 := cellH m1 1
    simp at q0 q1 q2 r0 r1
    exact ⟨q2, q0, q1, r0, r1, (m3.cell (p := ⟨b, _, none⟩) hb).trans c0, m3⟩)
  have CI : Hid (∀ w', Below W1.heap.size W1 w' → Calls Try.prog 88 #[.agg #[.int .i64 wd, .int .i64 hg, .slice (some ⟨b, off, none⟩) g.length cap], .agg #[.int .i64 x, .int .i64 y]] w' fun e w'' => e = .returned (.int .i64 (k : Int)) ∧ Below W1.heap.size W1 w'') := Lib.hid (fun w' h => (HI.out w').mono fun e w'' ⟨he, hh⟩ => ⟨he, h.trans (hh.mono h.size)⟩)
  have hki : (k : Int) < g.length := h2.2
  have hk0 : (0 : Int) ≤ k := h2.1
  clear hv hc c0 hk hv0 hW1 HI HA h1 h2
  go_enter Try.func76, Try.ntmps76
  go_wp2_with fail
  rw [HW1.out]
  refine wp_region_turn 5 (fun _ w' => Below W1.heap.size W1 w') (by kernel_rfl) (by kernel_rfl) ((Below.refl _ W1).drew) ?_
  simp only [List.take_succ_cons, List.take_zero, List.drop_succ_cons, List.drop_zero]
  iterate 5
    (first
      | (apply turnC_step (by rfl); (intro w' hw'; go_simp; exact CI.out w' hw'))
      | (apply turnC_step (by rfl); (intro w' hw'; obtain ⟨q0, q1, q2, q3, q4, q5, q6⟩ := K0.out w' hw'; go_simp; first | exact ⟨hw', rfl⟩ | exact rfl)))
    simp only [Act.put, List.setIfInBounds_toArray, List.set_cons_succ, List.set_cons_zero]
  intro listed w9 _ hw9
  obtain ⟨q0, q1, q2, q3, q4, q5, q6⟩ := K0.out w9 hw9
  have HB9 := Lib.hid q6
  clear q0 q1 q2 q3 q4 q6 hw9
  go_wp2_with fail
  go_ret
  exact ⟨ret_int' HV.out.symm, HB9.out⟩
end Go.Proofs.Ytnacgogcbbpjmaa

/-! axes, part and validLine of package ridge. -/
set_option linter.unusedVariables false
set_option linter.unusedSimpArgs false
namespace Go.Proofs.Ytnacgogcbbpjmaa
open Go Go.RowKit

theorem info_two : (Try.prog.info? 72).map (·.size) = some 2 := by kernel_rfl
set_option maxRecDepth 100000 in
theorem axes_any (p : Pl) (w : World) : Calls Try.prog 72 #[plV p] w fun e w' => e = .returned (.agg #[.int .i64 p.1, .int .i64 p.2]) ∧ Below w.heap.size w w' := by
  obtain ⟨x, y⟩ := p
  unfold plV
  simp only
  go_enter Try.func72, Try.ntmps72
  go_wp2_with fail
  refine bodyPost_ret (results_cell_row Try.results72 _ _ (w.heap.size + 1) 72 #[.int .i64 x, .int .i64 y] (0, 0) _ rfl (gAt _ _ _ (by simp)) Try.underlying72 rfl info_two) rfl ?_
  exact ⟨rfl, ((Below.refl _ w).alloc (Nat.le_refl w.heap.size) _).alloc (by simp) _⟩

/-- A crossing of a line: its axis and step, how many steps the line has along the axis, and the ground there, so many times. -/
structure Mt where
  ax : Int
  k : Int
  n : Int
  g : Int
def mtV (x : Mt) : Value := .agg #[.int .i64 x.ax, .int .i64 x.k, .int .i64 x.n, .int .i64 x.g]
def partI (x : Mt) (a b : Int) : Int := (x.n - x.k) * a + x.k * b
set_option maxRecDepth 100000 in
theorem part_any (x : Mt) (a b : Int) (w : World) (h0 : 0 ≤ x.k ∧ x.k ≤ x.n ∧ x.n ≤ 48) (ha : 0 ≤ a ∧ a ≤ 100000) (hb : 0 ≤ b ∧ b ≤ 100000) :
    Calls Try.prog 78 #[mtV x, .int .i64 a, .int .i64 b] w fun e w' => e = .returned (.int .i64 (partI x a b)) ∧ Below w.heap.size w w' := by
  obtain ⟨ax, k, n, g⟩ := x
  simp only at h0
  have HV : Hid (partI ⟨ax, k, n, g⟩ a b = (n - k) * a + k * b) := Lib.hid rfl
  unfold mtV
  have m1 : 0 ≤ (n - k) * a := Int.mul_nonneg (by omega) (by omega)
  have m2 : (n - k) * a ≤ 48 * 100000 := Int.mul_le_mul (by omega) ha.2 ha.1 (by omega)
  have m3 : 0 ≤ k * b := Int.mul_nonneg (by omega) (by omega)
  have m4 : k * b ≤ 48 * 100000 := Int.mul_le_mul (by omega) hb.2 hb.1 (by omega)
  have e0 : IntKind.i64.wrap (n - k) = n - k := IntWalk.i64_in _ (by omega)
  have e1 : IntKind.i64.wrap ((n - k) * a) = (n - k) * a := IntWalk.i64_in _ (by omega)
  have e2 : IntKind.i64.wrap (k * b) = k * b := IntWalk.i64_in _ (by omega)
  have e3 : IntKind.i64.wrap ((n - k) * a + k * b) = (n - k) * a + k * b := IntWalk.i64_in _ (by omega)
  have HB := Lib.hid ((Below.refl _ w).alloc (Nat.le_refl w.heap.size) (.cells #[.int .i64 ax, .int .i64 k, .int .i64 n, .int .i64 g] 102))
  clear m1 m2 m3 m4 h0 ha hb
  go_enter Try.func78, Try.ntmps78
  go_wp2_with fail
  go_ret
  exact ⟨ret_int' HV.out.symm, HB.out⟩

/-- The heights that a line is given are heights. -/
def tallB (l : List Int) : Bool := l.all fun n => wiB n 0 200
def vlB (wd hg : Int) (g : List Int) (a b : Pl) (l : List Int) : Bool := vmB wd hg g && onB wd hg a && onB wd hg b && tallB l
set_option maxRecDepth 100000 in
set_option maxHeartbeats 1000000 in
theorem validLine_any (wd hg : Int) (o : Value) (g : List Int) (a b : Pl) (v : Value) (l : List Int) (w : World) (hv : INRow w o g) (hl : g.length ≤ 9223372036854775807) (hu : INRow w v l) (hl2 : l.length ≤ 1000) :
    Calls Try.prog 45 #[mpV wd hg o, plV a, plV b, v] w fun e w' => e = .returned (.bool (vlB wd hg g a b l)) ∧ Below w.heap.size w w' := by
  have HV : Hid (vlB wd hg g a b l = (vmB wd hg g && onB wd hg a && onB wd hg b && tallB l)) := Lib.hid rfl
  have HC1 := Lib.hid (fun w' (h : Below w.heap.size w w') => validMap_any wd hg o g w' (hv.keep h) hl)
  obtain ⟨oa, oc, rfl, _⟩ := hv.form
  obtain ⟨va, vc, rfl, hc⟩ := hu.form
  have HC := Lib.hid hc
  have HC2 := Lib.hid (fun w' => On_any wd hg (.slice oa g.length oc) a w')
  have HC3 := Lib.hid (fun w' => On_any wd hg (.slice oa g.length oc) b w')
  obtain ⟨a1, a2⟩ := a
  obtain ⟨b1, b2⟩ := b
  unfold mpV at HC1 HC2 HC3 ⊢
  unfold plV at HC2 HC3 ⊢
  simp only at HC2 HC3 ⊢
  clear hv hu hc hl
  have HA := Lib.hid (fun W' => three_cells w #[.int .i64 wd, .int .i64 hg, .slice oa g.length oc] #[.int .i64 a1, .int .i64 a2] #[.int .i64 b1, .int .i64 b2] 24 32 32 (W := W'))
  have HB0 := Lib.hid ((((Below.refl _ w).alloc (Nat.le_refl w.heap.size) (.cells #[.int .i64 wd, .int .i64 hg, .slice oa g.length oc] 24)).alloc (by simp) (.cells #[.int .i64 a1, .int .i64 a2] 32)).alloc (by simp; omega) (.cells #[.int .i64 b1, .int .i64 b2] 32))
  obtain ⟨W1, hW1⟩ : ∃ W1, ((w.alloc (.cells #[.int .i64 wd, .int .i64 hg, .slice oa g.length oc] 24)).alloc (.cells #[.int .i64 a1, .int .i64 a2] 32)).alloc (.cells #[.int .i64 b1, .int .i64 b2] 32) = W1 := ⟨_, rfl⟩
  rw [hW1] at HA HB0
  have HW1 := Lib.hid hW1
  have ead : w.heap.size + 1 + 1 = w.heap.size + 2 := rfl
  clear hW1
  cases h1 : vmB wd hg g
  · rw [h1] at HC1
    have HN : Hid (vlB wd hg g (a1, a2) (b1, b2) l = false) := Lib.hid (by rw [HV.out, h1]; rfl)
    clear h1
    go_enter Try.func45, Try.ntmps45
    go_wp2_with fail
    rw [HW1.out]
    refine (HC1.out _ HB0.out).mono ?_
    rintro e w2 ⟨rfl, hb2⟩
    have HB2 := Lib.hid (HB0.out.trans (hb2.mono HB0.out.size))
    clear hb2
    go_wp2_with fail
    go_ret
    exact ⟨ret_bool' HN.out.symm, HB2.out⟩
  rw [h1] at HC1
  cases h2 : onB wd hg (a1, a2)
  · rw [h2] at HC2
    have HN : Hid (vlB wd hg g (a1, a2) (b1, b2) l = false) := Lib.hid (by rw [HV.out, h2]; simp)
    clear h1 h2
    go_enter Try.func45, Try.ntmps45
    go_wp2_with fail
    rw [HW1.out]
    refine (HC1.out _ HB0.out).mono ?_
    rintro e w2 ⟨rfl, hb2⟩
    obtain ⟨m0, m1, m2, _, hw2⟩ := HA.out w2 hb2
    have HB2 := Lib.hid hw2
    have q0 := cellH m0 0
    have q1 := cellH m0 1
    have q2 := cellH m0 2
    have r0 := cellH m1 0
    have r1 := cellH m1 1
    simp at q0 q1 q2 r0 r1
    clear hb2 m0 m1 m2 hw2
    go_wp2_with fail
    refine (HC2.out _).mono ?_
    rintro e w3 ⟨rfl, hb3⟩
    have HB3 := Lib.hid (HB2.out.trans (hb3.mono HB2.out.size))
    clear hb3 q0 q1 q2 r0 r1
    go_wp2_with fail
    go_ret
    exact ⟨ret_bool' HN.out.symm, HB3.out⟩
  rw [h2] at HC2
  cases h3 : onB wd hg (b1, b2)
  · rw [h3] at HC3
    have HN : Hid (vlB wd hg g (a1, a2) (b1, b2) l = false) := Lib.hid (by rw [HV.out, h3]; simp)
    clear h1 h2 h3
    go_enter Try.func45, Try.ntmps45
    go_wp2_with fail
    rw [HW1.out]
    refine (HC1.out _ HB0.out).mono ?_
    rintro e w2 ⟨rfl, hb2⟩
    obtain ⟨m0, m1, m2, _, hw2⟩ := HA.out w2 hb2
    have HB2 := Lib.hid hw2
    have HD2 := Lib.hid hb2
    have q0 := cellH m0 0
    have q1 := cellH m0 1
    have q2 := cellH m0 2
    have r0 := cellH m1 0
    have r1 := cellH m1 1
    simp at q0 q1 q2 r0 r1
    clear hb2 m0 m1 m2 hw2
    go_wp2_with fail
    refine (HC2.out _).mono ?_
    rintro e w3 ⟨rfl, hb3⟩
    clear q0 q1 q2 r0 r1
    have HD3 := Lib.hid (HD2.out.trans (hb3.mono HD2.out.size))
    obtain ⟨m0, m1, m2, _, hw3⟩ := HA.out w3 HD3.out
    have q0 := cellH m0 0
    have q1 := cellH m0 1
    have q2 := cellH m0 2
    have r0 := cellH m2 0
    have r1 := cellH m2 1
    simp at q0 q1 q2 r0 r1
    have HB3 := Lib.hid (HB2.out.trans (hb3.mono HB2.out.size))
    clear hb3 m0 m1 m2 hw3
    go_wp2_with fail
    refine (HC3.out _).mono ?_
    rintro e w4 ⟨rfl, hb4⟩
    have HB4 := Lib.hid (HB3.out.trans (hb4.mono HB3.out.size))
    clear hb4 q0 q1 q2 r0 r1
    go_wp2_with fail
    go_ret
    exact ⟨ret_bool' HN.out.symm, HB4.out⟩
  rw [h3] at HC3
  have HT0 : Hid (vlB wd hg g (a1, a2) (b1, b2) l = tallB l) := Lib.hid (by rw [HV.out, h1, h2, h3]; simp)
  clear h1 h2 h3
  go_enter Try.func45, Try.ntmps45
  go_wp2_with fail
  rw [HW1.out]
  refine (HC1.out _ HB0.out).mono ?_
  rintro e w2 ⟨rfl, hb2⟩
  obtain ⟨m0, m1, m2, _, hw2⟩ := HA.out w2 hb2
  have HB2 := Lib.hid hw2
  have HD2 := Lib.hid hb2
  have q0 := cellH m0 0
  have q1 := cellH m0 1
  have q2 := cellH m0 2
  have r0 := cellH m1 0
  have r1 := cellH m1 1
  simp at q0 q1 q2 r0 r1
  clear hb2 m0 m1 m2 hw2
  go_wp2_with fail
  refine (HC2.out _).mono ?_
  rintro e w3 ⟨rfl, hb3⟩
  clear q0 q1 q2 r0 r1
  have HD3 := Lib.hid (HD2.out.trans (hb3.mono HD2.out.size))
  obtain ⟨m0, m1, m2, _, hw3⟩ := HA.out w3 HD3.out
  have q0 := cellH m0 0
  have q1 := cellH m0 1
  have q2 := cellH m0 2
  have r0 := cellH m2 0
  have r1 := cellH m2 1
  simp at q0 q1 q2 r0 r1
  have HB3 := Lib.hid (HB2.out.trans (hb3.mono HB2.out.size))
  clear hb3 m0 m1 m2 hw3
  go_wp2_with fail
  refine (HC3.out _).mono ?_
  rintro e w4 ⟨rfl, hb4⟩
  have HB4 := Lib.hid (HB3.out.trans (hb4.mono HB3.out.size))
  clear hb4 q0 q1 q2 r0 r1
  go_wp2_with fail
  go_loopw [28] (fun i wr => ∃ (k : Nat), k ≤ l.length ∧ i = .int .i64 k ∧ Hid (vlB wd hg g (a1, a2) (b1, b2) l = tallB (l.drop k)) ∧ Hid (Below w.heap.size w wr)) (fun i _ => l.length - (intOf i).toNat)
  case atStart => exact ⟨0, Nat.zero_le _, rfl, HT0, HB4⟩
  case round =>
    obtain ⟨k, hk, rfl, hT, hB⟩ := hrel
    by_cases hkl : k < l.length
    · obtain ⟨b, off, rfl, hb, c0⟩ := HC.out k hkl
      have hki : (k : Int) < l.length := by omega
      have hk0 : (0 : Int) ≤ k := by omega
      have e0 := (hB.out.cell (p := ⟨b, _, none⟩) hb).trans c0
      have hD : Hid (tallB (l.drop k) = (wiB (l.getD k 0) 0 200 && tallB (l.drop (k + 1)))) := Lib.hid (by
        unfold tallB
        rw [all_drop _ hkl, List.getD_eq_getElem?_getD, List.getElem?_eq_getElem hkl]; rfl)
      obtain ⟨x, hx⟩ : ∃ x, l.getD k 0 = x := ⟨_, rfl⟩
      rw [hx] at e0 hD
      have HH := Lib.hid (validTall_any x)
      clear c0 hb hx
      cases q : wiB x 0 200
      · rw [q] at HH
        have HN : Hid (vlB wd hg g (a1, a2) (b1, b2) l = false) := Lib.hid (by rw [hT.out, hD.out, q]; rfl)
        clear hD q
        go_wp2_with fail
        refine (HH.out _).mono ?_
        rintro e w1 ⟨rfl, rfl⟩
        go_wp2_with fail
        go_ret
        exact ⟨ret_bool' HN.out.symm, hB.out⟩
      · rw [q] at HH
        have HN : Hid (vlB wd hg g (a1, a2) (b1, b2) l = tallB (l.drop (k + 1))) := Lib.hid (by rw [hT.out, hD.out, q]; rfl)
        clear hD q
        go_wp2_with fail
        refine (HH.out _).mono ?_
        rintro e w1 ⟨rfl, rfl⟩
        go_wp2_with fail
        go_roundw
        case rel => exact ⟨k + 1, by omega, by go_num, HN, hB⟩
        case measure => simp [intOf]; omega
    · obtain rfl : k = l.length := by omega
      have HN : Hid (vlB wd hg g (a1, a2) (b1, b2) l = true) := Lib.hid (by rw [hT.out, List.drop_length]; rfl)
      go_wp2_with fail
      go_ret
      exact ⟨ret_bool' HN.out.symm, hB.out⟩
end Go.Proofs.Ytnacgogcbbpjmaa
