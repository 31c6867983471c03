/- Small functions of package ridge: within, validTall, validHeight, validMap, On, indexOf, heightAt, validLine, axes, part. -/
import Derived.Test.YtjllkmekchmmbaaHA0
set_option linter.unusedVariables false
set_option linter.unusedSimpArgs false
namespace Go.Proofs.Ytjllkmekchmmbaa
open Go Go.RowKit

abbrev Pl := Int × Int
def plV (p : Pl) : Value := .agg #[.int .i64 p.1, .int .i64 p.2]
def mpV (wd hg : Int) (o : Value) : Value := .agg #[.int .i64 wd, .int .i64 hg, o]
def wiB (n a b : Int) : Bool := decide (a ≤ n) && decide (n ≤ b)

theorem within_any (n a b : Int) (w : World) : Calls Try.prog 52 #[.int .i64 n, .int .i64 a, .int .i64 b] w fun e w' => e = .returned (.bool (wiB n a b)) ∧ w' = w := by
  have HV : Hid (wiB n a b = (decide (a ≤ n) && decide (n ≤ b))) := Lib.hid rfl
  by_cases h : a ≤ n
  all_goals
    try have g : decide (a ≤ n) = false := decide_eq_false h
    go_enter Try.func52, Try.ntmps52
    go_wp2_with fail
    go_ret
    exact ⟨by rw [HV.out]; simp [h] <;> omega, rfl⟩
theorem validTall_any (n : Int) (w : World) : Calls Try.prog 53 #[.int .i64 n] w fun e w' => e = .returned (.bool (wiB n 0 200)) ∧ w' = w := by
  go_enter Try.func53, Try.ntmps53
  go_wp2_with fail
  refine (within_any _ _ _ _).mono ?_
  rintro e w1 ⟨rfl, rfl⟩
  go_wp2_with fail
  go_ret
  exact ⟨rfl, rfl⟩
theorem validHeight_any (n : Int) (w : World) : Calls Try.prog 49 #[.int .i64 n] w fun e w' => e = .returned (.bool (wiB n 0 4000)) ∧ w' = w := by
  go_enter Try.func49, Try.ntmps49
  go_wp2_with fail
  refine (within_any _ _ _ _).mono ?_
  rintro e w1 ⟨rfl, rfl⟩
  go_wp2_with fail
  go_ret
  exact ⟨rfl, rfl⟩

/-- A place lies on a map. -/
def onB (wd hg : Int) (p : Pl) : Bool := decide (0 ≤ p.1) && decide (p.1 < wd) && decide (0 ≤ p.2) && decide (p.2 < hg)
set_option maxRecDepth 100000 in
theorem On_any (wd hg : Int) (o : Value) (p : Pl) (w : World) : Calls Try.prog 19 #[mpV wd hg o, plV p] w fun e w' => e = .returned (.bool (onB wd hg p)) ∧ Below w.heap.size w w' := by
  obtain ⟨x, y⟩ := p
  have HV : Hid (onB wd hg (x, y) = (decide (0 ≤ x) && decide (x < wd) && decide (0 ≤ y) && decide (y < hg))) := Lib.hid rfl
  unfold mpV plV
  simp only
  have HB := Lib.hid (((Below.refl _ w).alloc (Nat.le_refl w.heap.size) (.cells #[.int .i64 wd, .int .i64 hg, o] 24)).alloc (by simp) (.cells #[.int .i64 x, .int .i64 y] 30))
  by_cases h1 : 0 ≤ x
  all_goals
    try have g1 : decide (0 ≤ x) = false := decide_eq_false h1
    by_cases h2 : x < wd
    all_goals
      try have g2 : decide (x < wd) = false := decide_eq_false h2
      by_cases h3 : 0 ≤ y
      all_goals
        try have g3 : decide (0 ≤ y) = false := decide_eq_false h3
        have HN : Hid (onB wd hg (x, y) = if 0 ≤ x ∧ x < wd ∧ 0 ≤ y then decide (y < hg) else false) := Lib.hid (by rw [HV.out]; simp [h1, h2, h3])
        go_enter Try.func19, Try.ntmps19
        go_wp2_with fail
        go_ret
        exact ⟨by rw [HN.out]; simp [h1, h2, h3] <;> omega, HB.out⟩

/-- A map is one. -/
def vmB (wd hg : Int) (g : List Int) : Bool := wiB wd 1 49 && wiB hg 1 49 && decide ((g.length : Int) = wd * hg) && g.all fun n => wiB n 0 4000
theorem vmB_ok {wd hg : Int} {g : List Int} (h : vmB wd hg g = true) : 1 ≤ wd ∧ wd ≤ 49 ∧ 1 ≤ hg ∧ hg ≤ 49 ∧ (g.length : Int) = wd * hg ∧ ∀ n ∈ g, 0 ≤ n ∧ n ≤ 4000 := by
  unfold vmB wiB at h
  simp only [Bool.and_eq_true, decide_eq_true_eq, List.all_eq_true] at h
  obtain ⟨⟨⟨⟨h1, h2⟩, h3, h4⟩, h5⟩, h6⟩ := h
  exact ⟨h1, h2, h3, h4, h5, fun n hn => h6 n hn⟩

set_option maxRecDepth 100000 in
set_option maxHeartbeats 1000000 in
theorem validMap_any (wd hg : Int) (o : Value) (g : List Int) (w : World) (hv : INRow w o g) (hl : g.length ≤ 9223372036854775807) :
    Calls Try.prog 45 #[mpV wd hg o] w fun e w' => e = .returned (.bool (vmB wd hg g)) ∧ Below w.heap.size w w' := by
  obtain ⟨a, cap, rfl, hc⟩ := hv.form
  have HC := Lib.hid hc
  have HV : Hid (vmB wd hg g = (wiB wd 1 49 && wiB hg 1 49 && decide ((g.length : Int) = wd * hg) && g.all fun n => wiB n 0 4000)) := Lib.hid rfl
  clear hc hv
  unfold mpV
  have HB0 := Lib.hid ((Below.refl _ w).alloc (Nat.le_refl w.heap.size) (.cells #[.int .i64 wd, .int .i64 hg, .slice a g.length cap] 24))
  have HW1 := Lib.hid (within_any wd 1 49)
  have HW2 := Lib.hid (within_any hg 1 49)
  cases h1 : wiB wd 1 49
  · rw [h1] at HW1
    have HN : Hid (vmB wd hg g = false) := Lib.hid (by rw [HV.out, h1]; rfl)
    clear h1
    go_enter Try.func45, Try.ntmps45
    go_wp2_with fail
    refine (HW1.out _).mono ?_
    rintro e w1 ⟨rfl, rfl⟩
    go_wp2_with fail
    go_ret
    exact ⟨ret_bool' HN.out.symm, HB0.out⟩
  rw [h1] at HW1
  cases h2 : wiB hg 1 49
  · rw [h2] at HW2
    have HN : Hid (vmB wd hg g = false) := Lib.hid (by rw [HV.out, h2]; simp)
    clear h1 h2
    go_enter Try.func45, Try.ntmps45
    go_wp2_with fail
    refine (HW1.out _).mono ?_
    rintro e w1 ⟨rfl, rfl⟩
    go_wp2_with fail
    refine (HW2.out _).mono ?_
    rintro e w1 ⟨rfl, rfl⟩
    go_wp2_with fail
    go_ret
    exact ⟨ret_bool' HN.out.symm, HB0.out⟩
  rw [h2] at HW2
  have HN0 : Hid (vmB wd hg g = (decide ((g.length : Int) = wd * hg) && g.all fun n => wiB n 0 4000)) := Lib.hid (by rw [HV.out, h1, h2]; simp)
  have hm : 1 ≤ wd ∧ wd ≤ 49 ∧ 1 ≤ hg ∧ hg ≤ 49 := by
    unfold wiB at h1 h2
    simp only [Bool.and_eq_true, decide_eq_true_eq] at h1 h2
    omega
  have hp0 : 0 ≤ wd * hg := Int.mul_nonneg (by omega) (by omega)
  have hp1 : wd * hg ≤ 49 * 49 := Int.mul_le_mul hm.2.1 hm.2.2.2 (by omega) (by omega)
  have hwr : IntKind.i64.wrap (wd * hg) = wd * hg := IntWalk.i64_in _ (by omega)
  clear h1 h2
  by_cases h3 : (g.length : Int) = wd * hg
  case neg =>
    have HN : Hid (vmB wd hg g = false) := Lib.hid (by rw [HN0.out, decide_eq_false h3]; rfl)
    have g3 : ((g.length : Int) != wd * hg) = true := by simpa using h3
    clear h3 hm hp0 hp1
    go_enter Try.func45, Try.ntmps45
    go_wp2_with fail
    refine (HW1.out _).mono ?_
    rintro e w1 ⟨rfl, rfl⟩
    go_wp2_with fail
    refine (HW2.out _).mono ?_
    rintro e w1 ⟨rfl, rfl⟩
    go_wp2_with fail
    go_ret
    exact ⟨ret_bool' HN.out.symm, HB0.out⟩
  have HT0 : Hid (vmB wd hg g = g.all fun n => wiB n 0 4000) := Lib.hid (by rw [HN0.out, decide_eq_true h3]; rfl)
  have g3 : ((g.length : Int) != wd * hg) = false := by simpa using h3
  clear h3 hm hp0 hp1
  go_enter Try.func45, Try.ntmps45
  go_wp2_with fail
  refine (HW1.out _).mono ?_
  rintro e w1 ⟨rfl, rfl⟩
  go_wp2_with fail
  refine (HW2.out _).mono ?_
  rintro e w1 ⟨rfl, rfl⟩
  go_wp2_with fail
  go_loopw [29] (fun i wr => ∃ (k : Nat), k ≤ g.length ∧ i = .int .i64 k ∧ Hid (vmB wd hg g = (g.drop k).all fun n => wiB n 0 4000) ∧ Hid (Below w.heap.size w wr)) (fun i _ => g.length - (intOf i).toNat)
  case atStart => exact ⟨0, Nat.zero_le _, rfl, HT0, HB0⟩
  case round =>
    obtain ⟨k, hk, rfl, hT, hB⟩ := hrel
    by_cases hkl : k < g.length
    · obtain ⟨b, off, rfl, hb, c0⟩ := HC.out k hkl
      have hki : (k : Int) < g.length := by omega
      have hk0 : (0 : Int) ≤ k := by omega
      have e0 := (hB.out.cell (p := ⟨b, _, none⟩) hb).trans c0
      have hD : Hid (((g.drop k).all fun n => wiB n 0 4000) = (wiB (g.getD k 0) 0 4000 && (g.drop (k + 1)).all fun n => wiB n 0 4000)) := Lib.hid (by
        rw [all_drop _ hkl, List.getD_eq_getElem?_getD, List.getElem?_eq_getElem hkl]; rfl)
      obtain ⟨x, hx⟩ : ∃ x, g.getD k 0 = x := ⟨_, rfl⟩
      rw [hx] at e0 hD
      have HH := Lib.hid (validHeight_any x)
      clear c0 hb hx
      cases q : wiB x 0 4000
      · rw [q] at HH
        have HN : Hid (vmB wd hg g = false) := Lib.hid (by rw [hT.out, hD.out, q]; rfl)
        clear hD q
        go_wp2_with fail
        refine (HH.out _).mono ?_
        rintro e w1 ⟨rfl, rfl⟩
        go_wp2_with fail
        go_ret
        exact ⟨ret_bool' HN.out.symm, hB.out⟩
      · rw [q] at HH
        have HN : Hid (vmB wd hg g = (g.drop (k + 1)).all fun n => wiB n 0 4000) := Lib.hid (by rw [hT.out, hD.out, q]; rfl)
        clear hD q
        go_wp2_with fail
        refine (HH.out _).mono ?_
        rintro e w1 ⟨rfl, rfl⟩
        go_wp2_with fail
        go_roundw
        case rel => exact ⟨k + 1, by omega, by go_num, HN, hB⟩
        case measure => simp [intOf]; omega
    · obtain rfl : k = g.length := by omega
      have HN : Hid (vmB wd hg g = true) := Lib.hid (by rw [hT.out, List.drop_length]; rfl)
      go_wp2_with fail
      go_ret
      exact ⟨ret_bool' HN.out.symm, hB.out⟩
end Go.Proofs.Ytjllkmekchmmbaa
