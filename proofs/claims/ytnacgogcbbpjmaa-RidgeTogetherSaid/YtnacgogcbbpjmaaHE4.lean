/- The reference's profile, where there is no crossing. -/
import Derived.Test.YtnacgogcbbpjmaaHE2
set_option linter.unusedVariables false
set_option linter.unusedSimpArgs false
namespace Go.Proofs.Ytnacgogcbbpjmaa
open Go Go.RowKit

/-- The line between two places has the crossing. -/
def hasC (a b : Pl) (ax k : Int) : Prop := (ax = 0 ∧ 1 ≤ k ∧ k < axN a b 0) ∨ (ax = 1 ∧ 1 ≤ k ∧ k < axN a b 1)
set_option maxRecDepth 100000 in
set_option maxHeartbeats 8000000 in
theorem rprofile_none (wd hg : Int) (o : Value) (g : List Int) (a b : Pl) (ax k : Int) (w : World) (hm : vmB wd hg g = true) (ha : onB wd hg a = true) (hb : onB wd hg b = true) (hc : ¬ hasC a b ax k) :
    Calls Try.prog 108 #[mpV wd hg o, plV a, plV b, .agg #[.int .i64 ax, .int .i64 k]] w fun e w' => e = .returned pfZ ∧ Below w.heap.size w w' := by
  obtain ⟨A1, A2, A3, A4⟩ := onB_ok ha
  obtain ⟨B1, B2, B3, B4⟩ := onB_ok hb
  obtain ⟨V1, V2, V3, V4, _, _⟩ := vmB_ok hm
  obtain ⟨a1, a2⟩ := a
  obtain ⟨b1, b2⟩ := b
  simp only at A1 A2 A3 A4 B1 B2 B3 B4
  have HS0 := Lib.hid (fun w' => rsize_any (b1 - a1) w' (by omega))
  have HS1 := Lib.hid (fun w' => rsize_any (b2 - a2) w' (by omega))
  have hv0 : axN (a1, a2) (b1, b2) 0 = max (b1 - a1) (-(b1 - a1)) := by unfold axN dist; simp only [reduceIte]; omega
  have hv1 : axN (a1, a2) (b1, b2) 1 = max (b2 - a2) (-(b2 - a2)) := by unfold axN dist; simp only [reduceIte, Nat.one_ne_zero]; omega
  unfold hasC at hc
  rw [← hv0] at HS0
  rw [← hv1] at HS1
  obtain ⟨n, hn⟩ : ∃ n, axN (a1, a2) (b1, b2) 0 = n := ⟨_, rfl⟩
  obtain ⟨m, hm2⟩ : ∃ n, axN (a1, a2) (b1, b2) 1 = n := ⟨_, rfl⟩
  rw [hn] at HS0 hc
  rw [hm2] at HS1 hc
  have e1 : wrap64 (b1 - a1) = b1 - a1 := w64 (by omega)
  have e2 : wrap64 (b2 - a2) = b2 - a2 := w64 (by omega)
  have ead : w.heap.size + 1 + 1 = w.heap.size + 2 := rfl
  have ead2 : w.heap.size + 2 + 1 = w.heap.size + 3 := rfl
  have ead3 : w.heap.size + 3 + 1 = w.heap.size + 4 := rfl
  obtain ⟨W1, hW1, hb0, hs1, hrd⟩ := five_reads w wd hg o (a1, a2) (b1, b2) ax k
  simp only at hW1 hrd
  have HW1 := Lib.hid hW1; have HB0 := Lib.hid hb0; have HRD := Lib.hid hrd
  clear hW1 hb0 hrd hs1 hn hm2 hv0 hv1 hm ha hb A1 A2 A3 A4 B1 B2 B3 B4 V1 V2 V3 V4
  unfold mpV plV pfZ
  simp only
  by_cases h1 : ax = 1
  case pos =>
    subst h1
    by_cases h2 : k < 1
    case pos =>
      clear hc
      go_enter Try.func108, Try.ntmps108
      go_wp2_with fail
      rw [← HW1.out]
      refine (HS1.out _).mono ?_
      rintro e w2 ⟨rfl, rfl⟩
      obtain ⟨p0, p1, p2, p3, p4, p5, p6, p7, p8, p9⟩ := HRD.out w2 (Below.refl _ _)
      have x0 := cellH p9 0
      have x1 := cellH p9 1
      have x2 := cellH p9 2
      have x3 := cellH p9 3
      have x4 := cellH p9 4
      have x5 := cellH p9 5
      have xf := freeH p9
      simp at x0 x1 x2 x3 x4 x5
      have HR := Lib.hid (heap_same (heap_same (heap_same (heap_same (heap_same (heap_same p9 0 (.int .i64 0)) 1 (.int .i64 0)) 2 (.int .i64 0)) 3 (.int .i64 0)) 4 (.int .i64 0)) 5 (.int .i64 0))
      have HB9 := Lib.hid ((((((HB0.out.setCell (p := ⟨w.heap.size + 4, 0, none⟩) (by simp) (.int .i64 0)).setCell (p := ⟨w.heap.size + 4, 1, none⟩) (by simp) (.int .i64 0)).setCell (p := ⟨w.heap.size + 4, 2, none⟩) (by simp) (.int .i64 0)).setCell (p := ⟨w.heap.size + 4, 3, none⟩) (by simp) (.int .i64 0)).setCell (p := ⟨w.heap.size + 4, 4, none⟩) (by simp) (.int .i64 0)).setCell (p := ⟨w.heap.size + 4, 5, none⟩) (by simp) (.int .i64 0))
      clear p9
      go_wp2_with fail
      exact bodyPost_ret (res_two Try.results108 _ _ (w.heap.size + 4) 71 #[.int .i64 0, .int .i64 0, .int .i64 0, .int .i64 0, .int .i64 0, .int .i64 0] (0, 0) _ rfl HR.out Try.underlying71 rfl info_pfs) rfl ⟨rfl, HB9.out⟩
    case neg =>
      have h3 : m ≤ k := by omega
      have h4 : 1 ≤ k := by omega
      have g2 : decide (k < 1) = false := decide_eq_false h2
      clear hc h2
      go_enter Try.func108, Try.ntmps108
      go_wp2_with fail
      rw [← HW1.out]
      refine (HS1.out _).mono ?_
      rintro e w2 ⟨rfl, rfl⟩
      obtain ⟨p0, p1, p2, p3, p4, p5, p6, p7, p8, p9⟩ := HRD.out w2 (Below.refl _ _)
      have x0 := cellH p9 0
      have x1 := cellH p9 1
      have x2 := cellH p9 2
      have x3 := cellH p9 3
      have x4 := cellH p9 4
      have x5 := cellH p9 5
      have xf := freeH p9
      simp at x0 x1 x2 x3 x4 x5
      have HR := Lib.hid (heap_same (heap_same (heap_same (heap_same (heap_same (heap_same p9 0 (.int .i64 0)) 1 (.int .i64 0)) 2 (.int .i64 0)) 3 (.int .i64 0)) 4 (.int .i64 0)) 5 (.int .i64 0))
      have HB9 := Lib.hid ((((((HB0.out.setCell (p := ⟨w.heap.size + 4, 0, none⟩) (by simp) (.int .i64 0)).setCell (p := ⟨w.heap.size + 4, 1, none⟩) (by simp) (.int .i64 0)).setCell (p := ⟨w.heap.size + 4, 2, none⟩) (by simp) (.int .i64 0)).setCell (p := ⟨w.heap.size + 4, 3, none⟩) (by simp) (.int .i64 0)).setCell (p := ⟨w.heap.size + 4, 4, none⟩) (by simp) (.int .i64 0)).setCell (p := ⟨w.heap.size + 4, 5, none⟩) (by simp) (.int .i64 0))
      clear p9
      go_wp2_with fail
      exact bodyPost_ret (res_two Try.results108 _ _ (w.heap.size + 4) 71 #[.int .i64 0, .int .i64 0, .int .i64 0, .int .i64 0, .int .i64 0, .int .i64 0] (0, 0) _ rfl HR.out Try.underlying71 rfl info_pfs) rfl ⟨rfl, HB9.out⟩
  case neg =>
    have g1 : (ax == 1) = false := by simpa using h1
    by_cases h2 : ax < 0
    case pos =>
      clear hc h1
      go_enter Try.func108, Try.ntmps108
      go_wp2_with fail
      rw [← HW1.out]
      refine (HS0.out _).mono ?_
      rintro e w2 ⟨rfl, rfl⟩
      obtain ⟨p0, p1, p2, p3, p4, p5, p6, p7, p8, p9⟩ := HRD.out w2 (Below.refl _ _)
      have x0 := cellH p9 0
      have x1 := cellH p9 1
      have x2 := cellH p9 2
      have x3 := cellH p9 3
      have x4 := cellH p9 4
      have x5 := cellH p9 5
      have xf := freeH p9
      simp at x0 x1 x2 x3 x4 x5
      have HR := Lib.hid (heap_same (heap_same (heap_same (heap_same (heap_same (heap_same p9 0 (.int .i64 0)) 1 (.int .i64 0)) 2 (.int .i64 0)) 3 (.int .i64 0)) 4 (.int .i64 0)) 5 (.int .i64 0))
      have HB9 := Lib.hid ((((((HB0.out.setCell (p := ⟨w.heap.size + 4, 0, none⟩) (by simp) (.int .i64 0)).setCell (p := ⟨w.heap.size + 4, 1, none⟩) (by simp) (.int .i64 0)).setCell (p := ⟨w.heap.size + 4, 2, none⟩) (by simp) (.int .i64 0)).setCell (p := ⟨w.heap.size + 4, 3, none⟩) (by simp) (.int .i64 0)).setCell (p := ⟨w.heap.size + 4, 4, none⟩) (by simp) (.int .i64 0)).setCell (p := ⟨w.heap.size + 4, 5, none⟩) (by simp) (.int .i64 0))
      clear p9
      go_wp2_with fail
      exact bodyPost_ret (res_two Try.results108 _ _ (w.heap.size + 4) 71 #[.int .i64 0, .int .i64 0, .int .i64 0, .int .i64 0, .int .i64 0, .int .i64 0] (0, 0) _ rfl HR.out Try.underlying71 rfl info_pfs) rfl ⟨rfl, HB9.out⟩
    case neg =>
      have g2 : decide (ax < 0) = false := decide_eq_false h2
      by_cases h3 : 1 < ax
      case pos =>
        clear hc h1 h2
        go_enter Try.func108, Try.ntmps108
        go_wp2_with fail
        rw [← HW1.out]
        refine (HS0.out _).mono ?_
        rintro e w2 ⟨rfl, rfl⟩
        obtain ⟨p0, p1, p2, p3, p4, p5, p6, p7, p8, p9⟩ := HRD.out w2 (Below.refl _ _)
        have x0 := cellH p9 0
        have x1 := cellH p9 1
        have x2 := cellH p9 2
        have x3 := cellH p9 3
        have x4 := cellH p9 4
        have x5 := cellH p9 5
        have xf := freeH p9
        simp at x0 x1 x2 x3 x4 x5
        have HR := Lib.hid (heap_same (heap_same (heap_same (heap_same (heap_same (heap_same p9 0 (.int .i64 0)) 1 (.int .i64 0)) 2 (.int .i64 0)) 3 (.int .i64 0)) 4 (.int .i64 0)) 5 (.int .i64 0))
        have HB9 := Lib.hid ((((((HB0.out.setCell (p := ⟨w.heap.size + 4, 0, none⟩) (by simp) (.int .i64 0)).setCell (p := ⟨w.heap.size + 4, 1, none⟩) (by simp) (.int .i64 0)).setCell (p := ⟨w.heap.size + 4, 2, none⟩) (by simp) (.int .i64 0)).setCell (p := ⟨w.heap.size + 4, 3, none⟩) (by simp) (.int .i64 0)).setCell (p := ⟨w.heap.size + 4, 4, none⟩) (by simp) (.int .i64 0)).setCell (p := ⟨w.heap.size + 4, 5, none⟩) (by simp) (.int .i64 0))
        clear p9
        go_wp2_with fail
        exact bodyPost_ret (res_two Try.results108 _ _ (w.heap.size + 4) 71 #[.int .i64 0, .int .i64 0, .int .i64 0, .int .i64 0, .int .i64 0, .int .i64 0] (0, 0) _ rfl HR.out Try.underlying71 rfl info_pfs) rfl ⟨rfl, HB9.out⟩
      case neg =>
        have h4 : ax = 0 := by omega
        subst h4
        clear h1 h2 h3 g1 g2
        by_cases h5 : k < 1
        case pos =>
          clear hc
          go_enter Try.func108, Try.ntmps108
          go_wp2_with fail
          rw [← HW1.out]
          refine (HS0.out _).mono ?_
          rintro e w2 ⟨rfl, rfl⟩
          obtain ⟨p0, p1, p2, p3, p4, p5, p6, p7, p8, p9⟩ := HRD.out w2 (Below.refl _ _)
          have x0 := cellH p9 0
          have x1 := cellH p9 1
          have x2 := cellH p9 2
          have x3 := cellH p9 3
          have x4 := cellH p9 4
          have x5 := cellH p9 5
          have xf := freeH p9
          simp at x0 x1 x2 x3 x4 x5
          have HR := Lib.hid (heap_same (heap_same (heap_same (heap_same (heap_same (heap_same p9 0 (.int .i64 0)) 1 (.int .i64 0)) 2 (.int .i64 0)) 3 (.int .i64 0)) 4 (.int .i64 0)) 5 (.int .i64 0))
          have HB9 := Lib.hid ((((((HB0.out.setCell (p := ⟨w.heap.size + 4, 0, none⟩) (by simp) (.int .i64 0)).setCell (p := ⟨w.heap.size + 4, 1, none⟩) (by simp) (.int .i64 0)).setCell (p := ⟨w.heap.size + 4, 2, none⟩) (by simp) (.int .i64 0)).setCell (p := ⟨w.heap.size + 4, 3, none⟩) (by simp) (.int .i64 0)).setCell (p := ⟨w.heap.size + 4, 4, none⟩) (by simp) (.int .i64 0)).setCell (p := ⟨w.heap.size + 4, 5, none⟩) (by simp) (.int .i64 0))
          clear p9
          go_wp2_with fail
          exact bodyPost_ret (res_two Try.results108 _ _ (w.heap.size + 4) 71 #[.int .i64 0, .int .i64 0, .int .i64 0, .int .i64 0, .int .i64 0, .int .i64 0] (0, 0) _ rfl HR.out Try.underlying71 rfl info_pfs) rfl ⟨rfl, HB9.out⟩
        case neg =>
          have h6 : n ≤ k := by omega
          have h4 : 1 ≤ k := by omega
          have g2 : decide (k < 1) = false := decide_eq_false h5
          clear hc h5
          go_enter Try.func108, Try.ntmps108
          go_wp2_with fail
          rw [← HW1.out]
          refine (HS0.out _).mono ?_
          rintro e w2 ⟨rfl, rfl⟩
          obtain ⟨p0, p1, p2, p3, p4, p5, p6, p7, p8, p9⟩ := HRD.out w2 (Below.refl _ _)
          have x0 := cellH p9 0
          have x1 := cellH p9 1
          have x2 := cellH p9 2
          have x3 := cellH p9 3
          have x4 := cellH p9 4
          have x5 := cellH p9 5
          have xf := freeH p9
          simp at x0 x1 x2 x3 x4 x5
          have HR := Lib.hid (heap_same (heap_same (heap_same (heap_same (heap_same (heap_same p9 0 (.int .i64 0)) 1 (.int .i64 0)) 2 (.int .i64 0)) 3 (.int .i64 0)) 4 (.int .i64 0)) 5 (.int .i64 0))
          have HB9 := Lib.hid ((((((HB0.out.setCell (p := ⟨w.heap.size + 4, 0, none⟩) (by simp) (.int .i64 0)).setCell (p := ⟨w.heap.size + 4, 1, none⟩) (by simp) (.int .i64 0)).setCell (p := ⟨w.heap.size + 4, 2, none⟩) (by simp) (.int .i64 0)).setCell (p := ⟨w.heap.size + 4, 3, none⟩) (by simp) (.int .i64 0)).setCell (p := ⟨w.heap.size + 4, 4, none⟩) (by simp) (.int .i64 0)).setCell (p := ⟨w.heap.size + 4, 5, none⟩) (by simp) (.int .i64 0))
          clear p9
          go_wp2_with fail
          exact bodyPost_ret (res_two Try.results108 _ _ (w.heap.size + 4) 71 #[.int .i64 0, .int .i64 0, .int .i64 0, .int .i64 0, .int .i64 0, .int .i64 0] (0, 0) _ rfl HR.out Try.underlying71 rfl info_pfs) rfl ⟨rfl, HB9.out⟩
end Go.Proofs.Ytnacgogcbbpjmaa
