/- Ground of package ridge, and ground of the law. -/
import Derived.Test.YtjllkmekchmmbaaHA8
import Derived.Test.YtjllkmekchmmbaaHB0
set_option linter.unusedVariables false
set_option linter.unusedSimpArgs false
namespace Go.Proofs.Ytjllkmekchmmbaa
open Go Go.RowKit

theorem lground_any (wd hg : Int) (o : Value) (g : List Int) (w : World) (hv : INRow w o g) (hl : g.length ≤ 9223372036854775807) :
    Calls Try.prog 30 #[mpV wd hg o] w fun e w' => e = .returned (.bool (decide (g.length ≤ 2600))) ∧ Below w.heap.size w w' := by
  obtain ⟨a, cap, rfl, _⟩ := hv.form
  clear hv
  unfold mpV
  have HB := Lib.hid ((Below.refl _ w).alloc (Nat.le_refl w.heap.size) (.cells #[.int .i64 wd, .int .i64 hg, .slice a g.length cap] 24))
  have HD : Hid (decide ((g.length : Int) ≤ 2600) = decide (g.length ≤ 2600)) := Lib.hid (by apply decide_eq_decide.2; omega)
  go_enter Try.func30, Try.ntmps30
  go_wp2_with fail
  go_ret
  exact ⟨ret_bool' HD.out, HB.out⟩
/-- The height at a place, or an error. -/
def grO (wd hg : Int) (g : List Int) (p : Pl) : Value := if vmB wd hg g = true ∧ onB wd hg p = true then .tuple #[.int .i64 (hAt g wd p), .int .i64 0] else .tuple #[.int .i64 0, .int .i64 1]
set_option maxRecDepth 100000 in
set_option maxHeartbeats 2000000 in
theorem Ground_any (wd hg : Int) (o : Value) (g : List Int) (p : Pl) (w : World) (hv : INRow w o g) (hl : g.length ≤ 9223372036854775807) :
    Calls Try.prog 12 #[mpV wd hg o, plV p] w fun e w' => e = .returned (grO wd hg g p) ∧ Below w.heap.size w w' := by
  obtain ⟨x, y⟩ := p
  have H1 := Lib.hid (fun w' (h : Below w.heap.size w w') => validMap_any wd hg o g w' (hv.keep h) hl)
  have H2 := Lib.hid (fun w' => On_any wd hg o (x, y) w')
  have HS : Hid (grO wd hg g (x, y) = if vmB wd hg g = true ∧ onB wd hg (x, y) = true then .tuple #[.int .i64 (hAt g wd (x, y)), .int .i64 0] else .tuple #[.int .i64 0, .int .i64 1]) := Lib.hid rfl
  have HVV := Lib.hid hv
  unfold mpV at H1
  unfold mpV plV at H2
  unfold mpV plV
  simp only at H2 ⊢
  have HB0 := Lib.hid (((Below.refl _ w).alloc (Nat.le_refl w.heap.size) (.cells #[.int .i64 wd, .int .i64 hg, o] 24)).alloc (by simp) (.cells #[.int .i64 x, .int .i64 y] 30))
  have HG0 := Lib.hid ((gNe (w.alloc (.cells #[.int .i64 wd, .int .i64 hg, o] 24)) (.cells #[.int .i64 x, .int .i64 y] 30) w.heap.size (by simp)).trans (heap_alloc_new _ _))
  have HG1 : Hid (((w.alloc (.cells #[.int .i64 wd, .int .i64 hg, o] 24)).alloc (.cells #[.int .i64 x, .int .i64 y] 30)).heap[w.heap.size + 1]? = some (.cells #[.int .i64 x, .int .i64 y] 30 (0, 0))) := Lib.hid (gAt _ _ _ (by simp))
  obtain ⟨W1, hW1⟩ : ∃ W1, (w.alloc (.cells #[.int .i64 wd, .int .i64 hg, o] 24)).alloc (.cells #[.int .i64 x, .int .i64 y] 30) = W1 := ⟨_, rfl⟩
  rw [hW1] at HB0 HG0 HG1
  have HW1 := Lib.hid hW1
  have HRD : Hid (∀ W', Below W1.heap.size W1 W' → W'.cell? ⟨w.heap.size, 0, none⟩ = some (.int .i64 wd) ∧ W'.cell? ⟨w.heap.size, 1, none⟩ = some (.int .i64 hg) ∧ W'.cell? ⟨w.heap.size, 2, none⟩ = some o ∧ W'.cell? ⟨w.heap.size + 1, 0, none⟩ = some (.int .i64 x) ∧ W'.cell? ⟨w.heap.size + 1, 1, none⟩ = some (.int .i64 y)) := Lib.hid (fun W' h => by
    have m0 := (h.block _ (Array.getElem?_eq_some_iff.1 HG0.out).1).trans HG0.out
    have m1 := (h.block _ (Array.getElem?_eq_some_iff.1 HG1.out).1).trans HG1.out
    exact ⟨cellH m0 0, cellH m0 1, cellH m0 2, cellH m1 0, cellH m1 1⟩)
  clear hW1 hv hl
  cases q1 : vmB wd hg g
  · rw [q1] at H1 HS
    clear q1
    go_enter Try.func12, Try.ntmps12
    go_wp2_with fail
    rw [HW1.out]
    obtain ⟨p0, p1, p2, p3, p4⟩ := HRD.out W1 (Below.refl _ _)
    go_wp2_with fail
    refine (H1.out _ HB0.out).mono ?_
    rintro e w2 ⟨rfl, hb2⟩
    have HB2 := Lib.hid (HB0.out.trans (hb2.mono HB0.out.size))
    clear hb2 p0 p1 p2 p3 p4
    go_wp2_with fail
    go_ret2
    exact ⟨by rw [HS.out, if_neg (by simp)]; rfl, HB2.out⟩
  rw [q1] at H1 HS
  cases q2 : onB wd hg (x, y)
  · rw [q2] at H2 HS
    clear q1 q2
    go_enter Try.func12, Try.ntmps12
    go_wp2_with fail
    rw [HW1.out]
    obtain ⟨p0, p1, p2, p3, p4⟩ := HRD.out W1 (Below.refl _ _)
    go_wp2_with fail
    refine (H1.out _ HB0.out).mono ?_
    rintro e w2 ⟨rfl, hb2⟩
    have HD2 := Lib.hid hb2
    have HB2 := Lib.hid (HB0.out.trans (hb2.mono HB0.out.size))
    clear hb2 p0 p1 p2 p3 p4
    obtain ⟨p0, p1, p2, p3, p4⟩ := HRD.out w2 HD2.out
    go_wp2_with fail
    refine (H2.out _).mono ?_
    rintro e w3 ⟨rfl, hb3⟩
    have HB3 := Lib.hid (HB2.out.trans (hb3.mono HB2.out.size))
    clear hb3 p0 p1 p2 p3 p4
    go_wp2_with fail
    go_ret2
    exact ⟨by rw [HS.out, if_neg (by simp)]; rfl, HB3.out⟩
  rw [q2] at H2 HS
  rw [if_pos ⟨rfl, rfl⟩] at HS
  obtain ⟨x1, x2, x3, x4⟩ := on_idx q1 q2
  have H3 := Lib.hid (fun w' (h : Below w.heap.size w w') => heightAt_any wd hg o g (x, y) w' (HVV.out.keep h) (by omega) ⟨x2, x3⟩ (by omega))
  unfold mpV plV at H3
  simp only at H3
  clear q1 q2 x1 x2 x3 x4
  go_enter Try.func12, Try.ntmps12
  go_wp2_with fail
  rw [HW1.out]
  obtain ⟨p0, p1, p2, p3, p4⟩ := HRD.out W1 (Below.refl _ _)
  go_wp2_with fail
  refine (H1.out _ HB0.out).mono ?_
  rintro e w2 ⟨rfl, hb2⟩
  have HD2 := Lib.hid hb2
  have HB2 := Lib.hid (HB0.out.trans (hb2.mono HB0.out.size))
  clear hb2 p0 p1 p2 p3 p4
  obtain ⟨p0, p1, p2, p3, p4⟩ := HRD.out w2 HD2.out
  go_wp2_with fail
  refine (H2.out _).mono ?_
  rintro e w3 ⟨rfl, hb3⟩
  have HD3 := Lib.hid (HD2.out.trans (hb3.mono HD2.out.size))
  have HB3 := Lib.hid (HB2.out.trans (hb3.mono HB2.out.size))
  clear hb3 p0 p1 p2 p3 p4
  obtain ⟨p0, p1, p2, p3, p4⟩ := HRD.out w3 HD3.out
  go_wp2_with fail
  refine (H3.out _ HB3.out).mono ?_
  rintro e w4 ⟨rfl, hb4⟩
  have HB4 := Lib.hid (HB3.out.trans (hb4.mono HB3.out.size))
  clear hb4 p0 p1 p2 p3 p4
  go_wp2_with fail
  go_ret2
  exact ⟨by rw [HS.out]; rfl, HB4.out⟩
end Go.Proofs.Ytjllkmekchmmbaa
