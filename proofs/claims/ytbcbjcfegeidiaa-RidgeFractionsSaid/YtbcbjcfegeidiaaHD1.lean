/- RidgeFractions: both packages answer the same on fractions. -/
import Derived.Test.YtbcbjcfegeidiaaHC3
import Derived.Test.YtbcbjcfegeidiaaHD0
set_option linter.unusedVariables false
set_option linter.unusedSimpArgs false
namespace Go.Proofs.Ytbcbjcfegeidiaa
open Go Go.RowKit

theorem smO_form (n d : Int) : ∃ x y e, smO n d = .tuple #[.agg #[.int .i64 x, .int .i64 y], .int .i64 e] := by
  unfold smO; split <;> exact ⟨_, _, _, rfl⟩
theorem cpO_form (a b c d : Int) : ∃ x e, cpO a b c d = .tuple #[.int .i64 x, .int .i64 e] := by
  unfold cpO; split <;> exact ⟨_, _, rfl⟩
set_option maxRecDepth 100000 in
set_option maxHeartbeats 8000000 in
theorem fractions_law (a b c d : Int) (w : World) : Calls Try.prog 8 #[.agg #[.int .i64 a, .int .i64 b], .agg #[.int .i64 c, .int .i64 d]] w fun e w' => e = .returned (.bool true) ∧ Below w.heap.size w w' := by
  have H1 := Lib.hid (fun w' => Smallest_any a b w')
  have H2 := Lib.hid (fun w' => rSmallest_any a b w')
  have H3 := Lib.hid (fun w' => Compare_any a b c d w')
  have H4 := Lib.hid (fun w' => rCompare_any a b c d w')
  obtain ⟨x, y, f, hs⟩ := smO_form a b
  obtain ⟨z, g, hc⟩ := cpO_form a b c d
  rw [hs] at H1 H2
  rw [hc] at H3 H4
  clear hs hc
  have HB0 := Lib.hid (((Below.refl _ w).alloc (Nat.le_refl w.heap.size) (.cells #[.int .i64 a, .int .i64 b] 52)).alloc (by simp) (.cells #[.int .i64 c, .int .i64 d] 52))
  have HG0 := Lib.hid ((gNe (w.alloc (.cells #[.int .i64 a, .int .i64 b] 52)) (.cells #[.int .i64 c, .int .i64 d] 52) w.heap.size (by simp)).trans (heap_alloc_new _ _))
  have HG1 : Hid (((w.alloc (.cells #[.int .i64 a, .int .i64 b] 52)).alloc (.cells #[.int .i64 c, .int .i64 d] 52)).heap[w.heap.size + 1]? = some (.cells #[.int .i64 c, .int .i64 d] 52 (0, 0))) := Lib.hid (gAt _ _ _ (by simp))
  obtain ⟨W1, hW1⟩ : ∃ W1, (w.alloc (.cells #[.int .i64 a, .int .i64 b] 52)).alloc (.cells #[.int .i64 c, .int .i64 d] 52) = W1 := ⟨_, rfl⟩
  rw [hW1] at HB0 HG0 HG1
  have HW1 := Lib.hid hW1
  have HRD : Hid (∀ W', Below W1.heap.size W1 W' → W'.cell? ⟨w.heap.size, 0, none⟩ = some (.int .i64 a) ∧ W'.cell? ⟨w.heap.size, 1, none⟩ = some (.int .i64 b) ∧ W'.cell? ⟨w.heap.size + 1, 0, none⟩ = some (.int .i64 c) ∧ W'.cell? ⟨w.heap.size + 1, 1, none⟩ = some (.int .i64 d) ∧ w.heap.size + 1 < W'.heap.size) := Lib.hid (fun W' h => by
    have m0 := (h.block _ (Array.getElem?_eq_some_iff.1 HG0.out).1).trans HG0.out
    have m1 := (h.block _ (Array.getElem?_eq_some_iff.1 HG1.out).1).trans HG1.out
    exact ⟨cellH m0 0, cellH m0 1, cellH m1 0, cellH m1 1, (Array.getElem?_eq_some_iff.1 m1).1⟩)
  clear hW1
  go_enter Try.func8, Try.ntmps8
  go_wp2_with fail
  rw [HW1.out]
  refine (head_any W1).mono ?_
  rintro e w2 ⟨rfl, hb⟩
  have HD2 := Lib.hid hb
  clear hb
  obtain ⟨p0, p1, p2, p3, _⟩ := HRD.out w2 HD2.out
  go_wp2_with fail
  refine (H1.out _).mono ?_
  rintro e w3 ⟨rfl, hb⟩
  have HD3 := Lib.hid (HD2.out.trans (hb.mono HD2.out.size))
  clear hb p0 p1 p2 p3
  obtain ⟨p0, p1, p2, p3, hsz⟩ := HRD.out w3 HD3.out
  have hn0 : w.heap.size ≠ w3.heap.size := by omega
  have hn1 : w.heap.size + 1 ≠ w3.heap.size := by omega
  have hl0 : w.heap.size < w3.heap.size := by omega
  go_wp2_with fail
  have hY := (Below.refl _ w3).alloc (Nat.le_refl _) (.cells #[.int .i64 x, .int .i64 y] 52)
  have hYR : (w3.alloc (.cells #[.int .i64 x, .int .i64 y] 52)).heap[w3.heap.size]? = some (.cells #[.int .i64 x, .int .i64 y] 52 (0, 0)) := heap_alloc_new _ _
  obtain ⟨Y, hYe⟩ : ∃ Y, w3.alloc (.cells #[.int .i64 x, .int .i64 y] 52) = Y := ⟨_, rfl⟩
  rw [hYe] at hY hYR ⊢
  have HDY := Lib.hid (HD3.out.trans (hY.mono HD3.out.size))
  obtain ⟨c1, hc1⟩ : ∃ n, w3.heap.size = n := ⟨_, rfl⟩
  rw [hc1] at hYR ⊢
  have HYR := Lib.hid hYR
  clear p0 p1 p2 p3 hsz hn0 hn1 hl0 hY hYe hc1 hYR
  refine (H2.out _).mono ?_
  rintro e w4 ⟨rfl, hb⟩
  have HD4 := Lib.hid (HDY.out.trans (hb.mono HDY.out.size))
  have hr4 := (hb.block _ (Array.getElem?_eq_some_iff.1 HYR.out).1).trans HYR.out
  have HR4 := Lib.hid hr4
  clear hb
  obtain ⟨p0, p1, p2, p3, hsz⟩ := HRD.out w4 HD4.out
  have hn0 : w.heap.size ≠ w4.heap.size := by omega
  have hn1 : w.heap.size + 1 ≠ w4.heap.size := by omega
  have hl0 : w.heap.size < w4.heap.size := by omega
  go_wp2_with fail
  have hZ := (Below.refl _ w4).alloc (Nat.le_refl _) (.cells #[.int .i64 x, .int .i64 y] 52)
  have hZR : (w4.alloc (.cells #[.int .i64 x, .int .i64 y] 52)).heap[w4.heap.size]? = some (.cells #[.int .i64 x, .int .i64 y] 52 (0, 0)) := heap_alloc_new _ _
  have hrz := (hZ.block _ (Array.getElem?_eq_some_iff.1 hr4).1).trans hr4
  obtain ⟨Z, hZe⟩ : ∃ Z, w4.alloc (.cells #[.int .i64 x, .int .i64 y] 52) = Z := ⟨_, rfl⟩
  rw [hZe] at hZ hZR hrz ⊢
  have HDZ := Lib.hid (HD4.out.trans (hZ.mono HD4.out.size))
  obtain ⟨c2, hc2⟩ : ∃ n, w4.heap.size = n := ⟨_, rfl⟩
  rw [hc2] at hZR ⊢
  have HZR := Lib.hid hZR
  have HRZ := Lib.hid hrz
  clear p0 p1 p2 p3 hsz hn0 hn1 hl0 hZ hZe hc2 hZR hrz hr4
  refine (H3.out _).mono ?_
  rintro e w5 ⟨rfl, hb⟩
  have HD5 := Lib.hid (HDZ.out.trans (hb.mono HDZ.out.size))
  have HS5 := Lib.hid ((hb.block _ (Array.getElem?_eq_some_iff.1 HZR.out).1).trans HZR.out)
  have HR5 := Lib.hid ((hb.block _ (Array.getElem?_eq_some_iff.1 HRZ.out).1).trans HRZ.out)
  clear hb
  obtain ⟨p0, p1, p2, p3, _⟩ := HRD.out w5 HD5.out
  go_wp2_with fail
  refine (H4.out _).mono ?_
  rintro e w6 ⟨rfl, hb⟩
  have HD6 := Lib.hid (HD5.out.trans (hb.mono HD5.out.size))
  have hs6 := (hb.block _ (Array.getElem?_eq_some_iff.1 HS5.out).1).trans HS5.out
  have hr6 := (hb.block _ (Array.getElem?_eq_some_iff.1 HR5.out).1).trans HR5.out
  have HF := Lib.hid (HB0.out.trans (HD6.out.mono HB0.out.size))
  have x0 := cellH hs6 0
  have x1 := cellH hs6 1
  have y0 := cellH hr6 0
  have y1 := cellH hr6 1
  simp at x0 x1 y0 y1
  clear hb hs6 hr6 p0 p1 p2 p3
  go_wp2_with fail
  go_ret
  exact ⟨by simp, HF.out⟩
end Go.Proofs.Ytbcbjcfegeidiaa
