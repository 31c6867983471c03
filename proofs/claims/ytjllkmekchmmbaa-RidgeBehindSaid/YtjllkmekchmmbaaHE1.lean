/- The reference's over, lined and sight. -/
import Derived.Test.YtjllkmekchmmbaaHE0
import Derived.Test.YtjllkmekchmmbaaHB0
set_option linter.unusedVariables false
set_option linter.unusedSimpArgs false
namespace Go.Proofs.Ytjllkmekchmmbaa
open Go Go.RowKit

set_option maxRecDepth 100000 in
theorem rover_any (c0 c1 n d gn gd low high : Int) (w : World) (e1 : IntKind.i64.wrap (gn * d) = gn * d) (e2 : IntKind.i64.wrap (d - n) = d - n) (e3 : IntKind.i64.wrap (low * (d - n)) = low * (d - n)) (e4 : IntKind.i64.wrap (high * n) = high * n)
    (e5 : IntKind.i64.wrap (low * (d - n) + high * n) = low * (d - n) + high * n) (e6 : IntKind.i64.wrap ((low * (d - n) + high * n) * gd) = (low * (d - n) + high * n) * gd) :
    Calls Try.prog 115 #[.agg #[.int .i64 c0, .int .i64 c1, .int .i64 n, .int .i64 d, .int .i64 gn, .int .i64 gd], .int .i64 low, .int .i64 high] w fun e w' => e = .returned (.bool (decide ((low * (d - n) + high * n) * gd < gn * d))) ∧ Below w.heap.size w w' := by
  have HB := Lib.hid ((Below.refl _ w).alloc (Nat.le_refl w.heap.size) (.cells #[.int .i64 c0, .int .i64 c1, .int .i64 n, .int .i64 d, .int .i64 gn, .int .i64 gd] 91))
  go_enter Try.func115, Try.ntmps115
  go_wp2_with fail
  go_ret
  exact ⟨rfl, HB.out⟩
theorem three_reads (w : World) (wd hg : Int) (o : Value) (a b : Pl) : ∃ W1, W1 = ((w.alloc (.cells #[.int .i64 wd, .int .i64 hg, o] 24)).alloc (.cells #[.int .i64 a.1, .int .i64 a.2] 30)).alloc (.cells #[.int .i64 b.1, .int .i64 b.2] 30) ∧ Below w.heap.size w W1 ∧ W1.heap.size = w.heap.size + 3 ∧
    ∀ W', Below W1.heap.size W1 W' → W'.cell? ⟨w.heap.size, 0, none⟩ = some (.int .i64 wd) ∧ W'.cell? ⟨w.heap.size, 1, none⟩ = some (.int .i64 hg) ∧ W'.cell? ⟨w.heap.size, 2, none⟩ = some o ∧ W'.cell? ⟨w.heap.size + 1, 0, none⟩ = some (.int .i64 a.1) ∧ W'.cell? ⟨w.heap.size + 1, 1, none⟩ = some (.int .i64 a.2) ∧
      W'.cell? ⟨w.heap.size + 2, 0, none⟩ = some (.int .i64 b.1) ∧ W'.cell? ⟨w.heap.size + 2, 1, none⟩ = some (.int .i64 b.2) := by
  refine ⟨_, rfl, ((((Below.refl _ w).alloc (Nat.le_refl w.heap.size) (.cells #[.int .i64 wd, .int .i64 hg, o] 24)).alloc (by simp) (.cells #[.int .i64 a.1, .int .i64 a.2] 30)).alloc (by simp; omega) (.cells #[.int .i64 b.1, .int .i64 b.2] 30)), by simp, fun W' h => ?_⟩
  obtain ⟨m0, m1, m2, hs, _⟩ := three_cells w #[.int .i64 wd, .int .i64 hg, o] #[.int .i64 a.1, .int .i64 a.2] #[.int .i64 b.1, .int .i64 b.2] 24 30 30 (W := W') h
  exact ⟨cellH m0 0, cellH m0 1, cellH m0 2, cellH m1 0, cellH m1 1, cellH m2 0, cellH m2 1⟩
set_option maxRecDepth 100000 in
set_option maxHeartbeats 2000000 in
theorem rlined_any (wd hg : Int) (o : Value) (g : List Int) (a b : Pl) (w : World) (hv : INRow w o g) (hl : g.length ≤ 9223372036854775807) :
    Calls Try.prog 47 #[mpV wd hg o, plV a, plV b] w fun e w' => e = .returned (.int .i64 (lnE wd hg g a b [])) ∧ Below w.heap.size w w' := by
  have H1 := Lib.hid (fun w' (h : Below w.heap.size w w') => rValid_any wd hg o g w' (hv.keep h) hl)
  have H2 := Lib.hid (fun w' => rOn_any wd hg o a w')
  have H3 := Lib.hid (fun w' => rOn_any wd hg o b w')
  have HV : Hid (lnE wd hg g a b [] = if (vmB wd hg g && onB wd hg a && onB wd hg b) = true then 0 else 1) := Lib.hid (by unfold lnE vlB tallB; simp)
  obtain ⟨W1, hW1, hb0, _, hrd⟩ := three_reads w wd hg o a b
  have HW1 := Lib.hid hW1; have HB0 := Lib.hid hb0; have HRD := Lib.hid hrd
  clear hW1 hb0 hrd hv hl
  unfold mpV at H1
  unfold mpV plV at H2 H3
  unfold mpV plV
  have ead : w.heap.size + 1 + 1 = w.heap.size + 2 := rfl
  cases q1 : vmB wd hg g
  · rw [q1] at H1 HV
    have HN : Hid (lnE wd hg g a b [] = 1) := Lib.hid (by rw [HV.out]; rfl)
    rw [HN.out]
    clear q1
    go_enter Try.func47, Try.ntmps47
    go_wp2_with fail
    rw [← HW1.out]
    obtain ⟨p0, p1, p2, p3, p4, p5, p6⟩ := HRD.out W1 (Below.refl _ _)
    go_wp2_with fail
    refine (H1.out _ HB0.out).mono ?_
    rintro e w2 ⟨rfl, hb2⟩
    have HB2 := Lib.hid (HB0.out.trans (hb2.mono HB0.out.size))
    clear hb2 p0 p1 p2 p3 p4 p5 p6
    go_wp2_with fail
    go_ret
    exact ⟨rfl, HB2.out⟩
  rw [q1] at H1 HV
  cases q2 : onB wd hg a
  · rw [q2] at H2 HV
    have HN : Hid (lnE wd hg g a b [] = 1) := Lib.hid (by rw [HV.out]; rfl)
    rw [HN.out]
    clear q1 q2
    go_enter Try.func47, Try.ntmps47
    go_wp2_with fail
    rw [← HW1.out]
    obtain ⟨p0, p1, p2, p3, p4, p5, p6⟩ := HRD.out W1 (Below.refl _ _)
    go_wp2_with fail
    refine (H1.out _ HB0.out).mono ?_
    rintro e w2 ⟨rfl, hb2⟩
    have HD2 := Lib.hid hb2
    have HB2 := Lib.hid (HB0.out.trans (hb2.mono HB0.out.size))
    clear hb2 p0 p1 p2 p3 p4 p5 p6
    obtain ⟨p0, p1, p2, p3, p4, p5, p6⟩ := HRD.out w2 HD2.out
    go_wp2_with fail
    refine (H2.out _).mono ?_
    rintro e w3 ⟨rfl, hb3⟩
    have HB3 := Lib.hid (HB2.out.trans (hb3.mono HB2.out.size))
    clear hb3 p0 p1 p2 p3 p4 p5 p6
    go_wp2_with fail
    go_ret
    exact ⟨rfl, HB3.out⟩
  rw [q2] at H2 HV
  have HN : Hid (lnE wd hg g a b [] = if onB wd hg b = true then 0 else 1) := Lib.hid (by rw [HV.out]; rfl)
  rw [HN.out]
  clear q1 q2
  cases q3 : onB wd hg b
  all_goals
    rw [q3] at H3
    clear q3
    go_enter Try.func47, Try.ntmps47
    go_wp2_with fail
    rw [← HW1.out]
    obtain ⟨p0, p1, p2, p3, p4, p5, p6⟩ := HRD.out W1 (Below.refl _ _)
    go_wp2_with fail
    refine (H1.out _ HB0.out).mono ?_
    rintro e w2 ⟨rfl, hb2⟩
    have HD2 := Lib.hid hb2
    have HB2 := Lib.hid (HB0.out.trans (hb2.mono HB0.out.size))
    clear hb2 p0 p1 p2 p3 p4 p5 p6
    obtain ⟨p0, p1, p2, p3, p4, p5, p6⟩ := HRD.out w2 HD2.out
    go_wp2_with fail
    refine (H2.out _).mono ?_
    rintro e w3 ⟨rfl, hb3⟩
    have HD3 := Lib.hid (HD2.out.trans (hb3.mono HD2.out.size))
    have HB3 := Lib.hid (HB2.out.trans (hb3.mono HB2.out.size))
    clear hb3 p0 p1 p2 p3 p4 p5 p6
    obtain ⟨p0, p1, p2, p3, p4, p5, p6⟩ := HRD.out w3 HD3.out
    go_wp2_with fail
    refine (H3.out _).mono ?_
    rintro e w4 ⟨rfl, hb4⟩
    have HB4 := Lib.hid (HB3.out.trans (hb4.mono HB3.out.size))
    clear hb4 p0 p1 p2 p3 p4 p5 p6
    go_wp2_with fail
    go_ret
    exact ⟨ret_int' (by decide), HB4.out⟩
theorem lnE_two' (wd hg : Int) (g : List Int) (a b : Pl) (u r : Int) : lnE wd hg g a b [u, r] = if lnE wd hg g a b [] = 0 then (if (wiB u 0 200 && wiB r 0 200) = true then 0 else 1) else 1 := by
  unfold lnE vlB tallB
  simp only [List.all_cons, List.all_nil, Bool.and_true]
  cases vmB wd hg g <;> cases onB wd hg a <;> cases onB wd hg b <;> simp
end Go.Proofs.Ytjllkmekchmmbaa
