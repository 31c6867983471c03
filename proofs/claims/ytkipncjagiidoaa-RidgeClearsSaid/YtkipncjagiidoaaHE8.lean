/- RidgeClears: Clear, Block and CheckBlock answer as the reference does. -/
import Derived.Test.YtkipncjagiidoaaHF4
import Derived.Test.YtkipncjagiidoaaHC3
import Derived.Test.YtkipncjagiidoaaHD2
set_option linter.unusedVariables false
set_option linter.unusedSimpArgs false
namespace Go.Proofs.Ytkipncjagiidoaa
open Go Go.RowKit

theorem bk_both (x : Option (Int × Int)) (e : Int) : ∃ (c1 c2 : Int) (bb : Bool), bkT x e = .tuple #[.agg #[.int .i64 c1, .int .i64 c2], .bool bb, .int .i64 e] ∧ rbT x e = .agg #[.int .i64 c1, .int .i64 c2, .bool bb, .int .i64 e] := by
  cases x with
  | none => exact ⟨0, 0, false, rfl, rfl⟩
  | some c => exact ⟨c.1, c.2, true, rfl, rfl⟩
set_option maxRecDepth 100000 in
set_option maxHeartbeats 8000000 in
theorem clears_law (wd hg : Int) (o : Value) (g : List Int) (a1 a2 low b1 b2 rise k1 k2 : Int) (w : World) (hv : INRow w o g) (hl : g.length ≤ 9223372036854775807) :
    Calls Try.prog 5 #[mpV wd hg o, .agg #[.int .i64 a1, .int .i64 a2], .int .i64 low, .agg #[.int .i64 b1, .int .i64 b2], .int .i64 rise, .agg #[.int .i64 k1, .int .i64 k2]] w fun e w' => e = .returned (.bool true) ∧ Below w.heap.size w w' := by
  have HGR := Lib.hid (fun w' (h : Below w.heap.size w w') => lground_any wd hg o g w' (hv.keep h) hl)
  have HCL := Lib.hid (fun w' (h : Below w.heap.size w w') => Clear_any wd hg o g (a1, a2) (b1, b2) low rise w' (hv.keep h) hl)
  have HRC := Lib.hid (fun w' (h : Below w.heap.size w w') => rClear_any wd hg o g (a1, a2) (b1, b2) low rise w' (hv.keep h) hl)
  have HBK := Lib.hid (fun w' (h : Below w.heap.size w w') => Block_any wd hg o g (a1, a2) (b1, b2) low rise w' (hv.keep h) hl)
  have HRB := Lib.hid (fun w' (h : Below w.heap.size w w') => rBlock_any wd hg o g (a1, a2) (b1, b2) low rise w' (hv.keep h) hl)
  have HCB := Lib.hid (fun w' (h : Below w.heap.size w w') => CheckBlock_any wd hg o g (a1, a2) (b1, b2) low rise (k1, k2) w' (hv.keep h) hl)
  have HRK := Lib.hid (fun w' (h : Below w.heap.size w w') => rCheckBlock_any wd hg o g (a1, a2) (b1, b2) low rise (k1, k2) w' (hv.keep h) hl)
  obtain ⟨c1, c2, bb, hb1, hb2⟩ := bk_both (bkF wd hg g (a1, a2) low (b1, b2) rise) (lnE wd hg g (a1, a2) (b1, b2) [low, rise])
  rw [hb1] at HBK
  rw [hb2] at HRB
  clear hb1 hb2
  obtain ⟨cl, hcl⟩ : ∃ x, clB wd hg g (a1, a2) low (b1, b2) rise = x := ⟨_, rfl⟩
  obtain ⟨le, hle⟩ : ∃ x, lnE wd hg g (a1, a2) (b1, b2) [low, rise] = x := ⟨_, rfl⟩
  obtain ⟨ck, hck⟩ : ∃ x, cbE wd hg g (a1, a2) low (b1, b2) rise (k1, k2) = x := ⟨_, rfl⟩
  rw [hcl, hle] at HCL HRC
  rw [hle] at HBK HRB
  rw [hck] at HCB HRK
  clear hcl hle hck
  unfold mpV plV at HCL HRC HBK HRB HCB HRK
  unfold mpV at HGR
  unfold mpV
  obtain ⟨W1, hW1, hb0, hs1, hrd⟩ := four_readsC w k1 k2 wd hg o (a1, a2) (b1, b2)
  simp only at hW1 hrd HCL HRC HBK HRB HCB HRK
  have HW1 := Lib.hid hW1; have HB0 := Lib.hid hb0
  have HRD : Hid (∀ W', Below W1.heap.size W1 W' → W'.cell? ⟨w.heap.size, 0, none⟩ = some (.int .i64 wd) ∧ W'.cell? ⟨w.heap.size, 1, none⟩ = some (.int .i64 hg) ∧ W'.cell? ⟨w.heap.size, 2, none⟩ = some o ∧ W'.cell? ⟨w.heap.size + 1, 0, none⟩ = some (.int .i64 a1) ∧ W'.cell? ⟨w.heap.size + 1, 1, none⟩ = some (.int .i64 a2) ∧
      W'.cell? ⟨w.heap.size + 2, 0, none⟩ = some (.int .i64 b1) ∧ W'.cell? ⟨w.heap.size + 2, 1, none⟩ = some (.int .i64 b2) ∧ W'.cell? ⟨w.heap.size + 3, 0, none⟩ = some (.int .i64 k1) ∧ W'.cell? ⟨w.heap.size + 3, 1, none⟩ = some (.int .i64 k2)) := Lib.hid (fun W' h => by
    obtain ⟨p0, p1, p2, p3, p4, p5, p6, p7⟩ := hrd W' h
    exact ⟨p0, p1, p2, p3, p4, p5, p6, cellH p7 0, cellH p7 1⟩)
  clear hW1 hb0 hrd
  have ead : w.heap.size + 1 + 1 = w.heap.size + 2 := rfl
  have ead2 : w.heap.size + 2 + 1 = w.heap.size + 3 := rfl
  go_enter Try.func5, Try.ntmps5
  go_wp2_with fail
  rw [← HW1.out]
  refine (head_any W1).mono ?_
  rintro e w2 ⟨rfl, hb⟩
  have HD2 := Lib.hid hb
  have HB2 := Lib.hid (HB0.out.trans (hb.mono HB0.out.size))
  clear hb
  obtain ⟨q0, q1, q2, r0, r1, s0, s1, t0, t1⟩ := HRD.out w2 HD2.out
  go_wp2_with fail
  refine (HGR.out _ HB2.out).mono ?_
  rintro e w3 ⟨rfl, hb⟩
  have HD3 := Lib.hid (HD2.out.trans (hb.mono HD2.out.size))
  have HB3 := Lib.hid (HB2.out.trans (hb.mono HB2.out.size))
  clear hb q0 q1 q2 r0 r1 s0 s1 t0 t1
  cases decide (g.length ≤ 2600)
  · go_wp2_with fail
    go_ret
    exact ⟨rfl, HB3.out⟩
  obtain ⟨q0, q1, q2, r0, r1, s0, s1, t0, t1⟩ := HRD.out w3 HD3.out
  go_wp2_with fail
  refine (HCL.out _ HB3.out).mono ?_
  rintro e w4 ⟨rfl, hb⟩
  have HD4 := Lib.hid (HD3.out.trans (hb.mono HD3.out.size))
  have HB4 := Lib.hid (HB3.out.trans (hb.mono HB3.out.size))
  clear hb q0 q1 q2 r0 r1 s0 s1 t0 t1
  obtain ⟨q0, q1, q2, r0, r1, s0, s1, t0, t1⟩ := HRD.out w4 HD4.out
  go_wp2_with fail
  refine (HRC.out _ HB4.out).mono ?_
  rintro e w5 ⟨rfl, hb⟩
  have HD5 := Lib.hid (HD4.out.trans (hb.mono HD4.out.size))
  have HB5 := Lib.hid (HB4.out.trans (hb.mono HB4.out.size))
  clear hb q0 q1 q2 r0 r1 s0 s1 t0 t1
  obtain ⟨q0, q1, q2, r0, r1, s0, s1, t0, t1⟩ := HRD.out w5 HD5.out
  go_wp2_with fail
  refine (HBK.out _ HB5.out).mono ?_
  rintro e w6 ⟨rfl, hb⟩
  have HD6 := Lib.hid (HD5.out.trans (hb.mono HD5.out.size))
  have HB6 := Lib.hid (HB5.out.trans (hb.mono HB5.out.size))
  clear hb q0 q1 q2 r0 r1 s0 s1 t0 t1
  have hsz : w.heap.size + 4 ≤ w6.heap.size := by have := HD6.out.size; omega
  have hn0 : w.heap.size ≠ w6.heap.size := by omega
  have hn1 : w.heap.size + 1 ≠ w6.heap.size := by omega
  have hn2 : w.heap.size + 2 ≠ w6.heap.size := by omega
  have hl0 : w.heap.size < w6.heap.size := by omega
  have hl1 : w.heap.size + 1 < w6.heap.size := by omega
  have hl2 : w.heap.size + 2 < w6.heap.size := by omega
  have hY := (Below.refl _ w6).alloc (Nat.le_refl _) (.cells #[.int .i64 c1, .int .i64 c2] 50)
  have HYR : Hid ((w6.alloc (.cells #[.int .i64 c1, .int .i64 c2] 50)).heap[w6.heap.size]? = some (.cells #[.int .i64 c1, .int .i64 c2] 50 (0, 0))) := Lib.hid (heap_alloc_new _ _)
  obtain ⟨Y, hYe⟩ : ∃ Y, w6.alloc (.cells #[.int .i64 c1, .int .i64 c2] 50) = Y := ⟨_, rfl⟩
  rw [hYe] at hY HYR
  have HY := Lib.hid hYe
  have HDY := Lib.hid (HD6.out.trans (hY.mono HD6.out.size))
  have HBY := Lib.hid (HB6.out.trans (hY.mono HB6.out.size))
  clear hY hYe
  obtain ⟨q0, q1, q2, r0, r1, s0, s1, t0, t1⟩ := HRD.out w6 HD6.out
  go_wp2_with fail
  rw [HY.out]
  clear q0 q1 q2 r0 r1 s0 s1 t0 t1 hn0 hn1 hn2 hl0 hl1 hl2 HY
  obtain ⟨c8, hc8⟩ : ∃ n, w6.heap.size = n := ⟨_, rfl⟩
  rw [hc8] at HYR ⊢
  clear hsz hc8
  refine (HRB.out _ HBY.out).mono ?_
  rintro e w8 ⟨rfl, hb⟩
  have HZD := Lib.hid (HDY.out.trans ((hb.alloc hb.size (.cells #[.int .i64 c1, .int .i64 c2, .bool bb, .int .i64 le] 61)).mono HDY.out.size))
  have HZB := Lib.hid (HBY.out.trans ((hb.alloc hb.size (.cells #[.int .i64 c1, .int .i64 c2, .bool bb, .int .i64 le] 61)).mono HBY.out.size))
  have HZY := Lib.hid (hb.alloc hb.size (.cells #[.int .i64 c1, .int .i64 c2, .bool bb, .int .i64 le] 61))
  have HZR : Hid ((w8.alloc (.cells #[.int .i64 c1, .int .i64 c2, .bool bb, .int .i64 le] 61)).heap[w8.heap.size]? = some (.cells #[.int .i64 c1, .int .i64 c2, .bool bb, .int .i64 le] 61 (0, 0))) := Lib.hid (heap_alloc_new _ _)
  obtain ⟨Z, hZ⟩ : ∃ Z, w8.alloc (.cells #[.int .i64 c1, .int .i64 c2, .bool bb, .int .i64 le] 61) = Z := ⟨_, rfl⟩
  rw [hZ] at HZD HZB HZY HZR
  have HZ := Lib.hid hZ
  clear hZ hb
  go_wp2_with fail
  rw [HZ.out]
  obtain ⟨d8, hd8⟩ : ∃ n, w8.heap.size = n := ⟨_, rfl⟩
  rw [hd8] at HZR ⊢
  have HD8 := Lib.hid hd8
  clear hd8
  have KZ : Hid (∀ W', Below Z.heap.size Z W' → W'.cell? ⟨c8, 0, none⟩ = some (.int .i64 c1) ∧ W'.cell? ⟨c8, 1, none⟩ = some (.int .i64 c2) ∧ W'.cell? ⟨d8, 0, none⟩ = some (.int .i64 c1) ∧ W'.cell? ⟨d8, 1, none⟩ = some (.int .i64 c2) ∧ W'.cell? ⟨d8, 2, none⟩ = some (.bool bb) ∧ W'.cell? ⟨d8, 3, none⟩ = some (.int .i64 le)) := Lib.hid (fun W' h => by
    have m := (h.block _ (Array.getElem?_eq_some_iff.1 HZR.out).1).trans HZR.out
    have y := ((HZY.out.trans (h.mono HZY.out.size)).block _ (Array.getElem?_eq_some_iff.1 HYR.out).1).trans HYR.out
    exact ⟨cellH y 0, cellH y 1, cellH m 0, cellH m 1, cellH m 2, cellH m 3⟩)
  have KA : Hid (∀ w', Below Z.heap.size Z w' → Calls Try.prog 31 #[.agg #[.int .i64 wd, .int .i64 hg, o], .agg #[.int .i64 a1, .int .i64 a2], .int .i64 low, .agg #[.int .i64 b1, .int .i64 b2], .int .i64 rise, .agg #[.int .i64 k1, .int .i64 k2]] w' fun e w'' => e = .returned (.int .i64 ck) ∧ Below Z.heap.size Z w'') := Lib.hid (fun w' h => (HCB.out w' (HZB.out.trans (h.mono HZB.out.size))).mono fun e w'' ⟨he, hh⟩ => ⟨he, h.trans (hh.mono h.size)⟩)
  have KB : Hid (∀ w', Below Z.heap.size Z w' → Calls Try.prog 32 #[.agg #[.int .i64 wd, .int .i64 hg, o], .agg #[.int .i64 a1, .int .i64 a2], .int .i64 low, .agg #[.int .i64 b1, .int .i64 b2], .int .i64 rise, .agg #[.int .i64 k1, .int .i64 k2]] w' fun e w'' => e = .returned (.int .i64 ck) ∧ Below Z.heap.size Z w'') := Lib.hid (fun w' h => (HRK.out w' (HZB.out.trans (h.mono HZB.out.size))).mono fun e w'' ⟨he, hh⟩ => ⟨he, h.trans (hh.mono h.size)⟩)
  refine wp_region_turn 46 (fun _ w' => Below Z.heap.size Z w') (by kernel_rfl) (by kernel_rfl) ((Below.refl _ Z).drew) ?_
  simp only [List.take_succ_cons, List.take_zero, List.drop_succ_cons, List.drop_zero]
  iterate 36
    (apply turnC_step (by rfl); (intro w' hw'; obtain ⟨x0, x1, x2, x3, x4, x5⟩ := KZ.out w' hw'; obtain ⟨q0, q1, q2, r0, r1, s0, s1, t0, t1⟩ := HRD.out w' (HZD.out.trans (hw'.mono HZD.out.size)); go_simp; first | exact ⟨hw', rfl⟩ | exact rfl))
    simp only [Act.put, List.setIfInBounds_toArray, List.set_cons_succ, List.set_cons_zero]
  (apply turnC_step (by rfl); (intro w' hw'; go_simp; exact KA.out w' hw'))
  simp only [Act.put, List.setIfInBounds_toArray, List.set_cons_succ, List.set_cons_zero]
  iterate 6
    (apply turnC_step (by rfl); (intro w' hw'; obtain ⟨x0, x1, x2, x3, x4, x5⟩ := KZ.out w' hw'; obtain ⟨q0, q1, q2, r0, r1, s0, s1, t0, t1⟩ := HRD.out w' (HZD.out.trans (hw'.mono HZD.out.size)); go_simp; first | exact ⟨hw', rfl⟩ | exact rfl))
    simp only [Act.put, List.setIfInBounds_toArray, List.set_cons_succ, List.set_cons_zero]
  (apply turnC_step (by rfl); (intro w' hw'; go_simp; exact KB.out w' hw'))
  simp only [Act.put, List.setIfInBounds_toArray, List.set_cons_succ, List.set_cons_zero]
  iterate 2
    (apply turnC_step (by rfl); (intro w' hw'; obtain ⟨x0, x1, x2, x3, x4, x5⟩ := KZ.out w' hw'; obtain ⟨q0, q1, q2, r0, r1, s0, s1, t0, t1⟩ := HRD.out w' (HZD.out.trans (hw'.mono HZD.out.size)); go_simp; first | exact ⟨hw', rfl⟩ | exact rfl))
    simp only [Act.put, List.setIfInBounds_toArray, List.set_cons_succ, List.set_cons_zero]
  intro listed w9 _ hw9
  have HB9 := Lib.hid (HZB.out.trans (hw9.mono HZB.out.size))
  clear hw9
  go_wp2_with fail
  go_ret
  exact ⟨rfl, HB9.out⟩
theorem clears_card (wd hg : Int) (o : Value) (g : List Int) (a1 a2 low b1 b2 rise k1 k2 : Int) (w : World) (hv : INRow w o g) (hl : g.length ≤ 9223372036854775807) (_ : -9223372036854775808 ≤ low ∧ low ≤ 9223372036854775807) (_ : -9223372036854775808 ≤ rise ∧ rise ≤ 9223372036854775807) :
    Calls Try.prog 5 #[mpV wd hg o, .agg #[.int .i64 a1, .int .i64 a2], .int .i64 low, .agg #[.int .i64 b1, .int .i64 b2], .int .i64 rise, .agg #[.int .i64 k1, .int .i64 k2]] w fun e w' => e = .returned (.bool true) ∧ Below w.heap.size w w' :=
  clears_law wd hg o g a1 a2 low b1 b2 rise k1 k2 w hv hl
end Go.Proofs.Ytkipncjagiidoaa
