/- Package circle: Opening, validWedge, Lies, Widen. -/
import Derived.Test.YtpaihnjgpookjaaCA3
set_option linter.unusedVariables false
set_option linter.unusedSimpArgs false
namespace Go.Proofs.Ytpaihnjgpookjaa
open Go Go.RowKit

theorem upC {P : Program} {f : FuncId} {args : Array Value} {v : Value} {Z : World} (h : ∀ w, Calls P f args w fun e w' => e = .returned v ∧ Below w.heap.size w w') : ∀ w', Below Z.heap.size Z w' → Calls P f args w' fun e w'' => e = .returned v ∧ Below Z.heap.size Z w'' :=
  fun w' h' => (h w').mono fun e w'' ⟨he, hh⟩ => ⟨he, h'.trans (hh.mono h'.size)⟩
theorem upQ {P : Program} {f : FuncId} {args : Array Value} {v : Value} {Z : World} (h : ∀ w, Calls P f args w fun e w' => e = .returned v ∧ w' = w) : ∀ w', Below Z.heap.size Z w' → Calls P f args w' fun e w'' => e = .returned v ∧ Below Z.heap.size Z w'' :=
  fun w' h' => (h w').mono fun e w'' ⟨he, hh⟩ => ⟨he, hh ▸ h'⟩
/-- The opening of a wedge. -/
def opI (f t : Int) : Int := if ciB f 0 3599 && ciB t 0 3599 then (t - f) % 3600 else -1
def vwB (f t : Int) : Bool := ciB (opI f t) 0 900
theorem opI_bd (f t : Int) : -1 ≤ opI f t ∧ opI f t < 3600 := by unfold opI; split <;> omega
theorem vw_ok {f t : Int} (h : vwB f t = true) : (0 ≤ f ∧ f ≤ 3599) ∧ (0 ≤ t ∧ t ≤ 3599) ∧ opI f t = (t - f) % 3600 ∧ 0 ≤ opI f t ∧ opI f t ≤ 900 := by
  unfold vwB at h
  rw [ci_iff] at h
  unfold opI at *
  split at h
  · rename_i hh
    rw [if_pos hh]
    rw [Bool.and_eq_true, ci_iff, ci_iff] at hh
    exact ⟨hh.1, hh.2, rfl, h⟩
  · omega
set_option maxRecDepth 100000 in
theorem Opening_any (f t : Int) (w : World) : Calls Try.prog 13 #[.agg #[.int .i64 f, .int .i64 t]] w fun e w' => e = .returned (.int .i64 (opI f t)) ∧ Below w.heap.size w w' := by
  have HB := Lib.hid ((Below.refl w.heap.size w).alloc (Nat.le_refl _) (.cells #[.int .i64 f, .int .i64 t] 23))
  have H1 := Lib.hid (fun w' => validDivision_any f w')
  have H2 := Lib.hid (fun w' => validDivision_any t w')
  have HO : Hid (opI f t = if ciB f 0 3599 && ciB t 0 3599 then (t - f) % 3600 else -1) := Lib.hid rfl
  obtain ⟨b1, hb1⟩ : ∃ z, ciB f 0 3599 = z := ⟨_, rfl⟩
  obtain ⟨b2, hb2⟩ : ∃ z, ciB t 0 3599 = z := ⟨_, rfl⟩
  obtain ⟨o, ho⟩ : ∃ z, opI f t = z := ⟨_, rfl⟩
  rw [hb1] at H1 HO
  rw [hb2] at H2 HO
  rw [ho] at HO ⊢
  have HB1 := Lib.hid hb1
  have HB2 := Lib.hid hb2
  clear hb1 hb2 ho
  go_enter Try.func13, Try.ntmps13
  go_wp2_with fail
  refine (H1.out _).mono ?_
  rintro e w1 ⟨rfl, rfl⟩
  cases b1
  · go_wp2_with fail
    go_ret
    exact ⟨by rw [HO.out]; rfl, HB.out⟩
  go_wp2_with fail
  refine (H2.out _).mono ?_
  rintro e w1 ⟨rfl, rfl⟩
  cases b2
  · go_wp2_with fail
    go_ret
    exact ⟨by rw [HO.out]; rfl, HB.out⟩
  have h1 := ci_iff.1 HB1.out
  have h2 := ci_iff.1 HB2.out
  have e1 : IntKind.i64.wrap (t - f) = t - f := IntWalk.i64_in _ (by omega)
  have HT := Lib.hid (fun w' => qturn_any (t - f) w')
  have HO2 : Hid ((t - f) % 3600 = o) := Lib.hid (by rw [HO.out]; rfl)
  rw [HO2.out] at HT
  clear h1 h2
  go_wp2_with fail
  refine (HT.out _).mono ?_
  rintro e w1 ⟨rfl, rfl⟩
  go_wp2_with fail
  go_ret
  exact ⟨rfl, HB.out⟩
set_option maxRecDepth 100000 in
theorem validWedge_any (f t : Int) (w : World) : Calls Try.prog 30 #[.agg #[.int .i64 f, .int .i64 t]] w fun e w' => e = .returned (.bool (vwB f t)) ∧ Below w.heap.size w w' := by
  have HB := Lib.hid ((Below.refl w.heap.size w).alloc (Nat.le_refl _) (.cells #[.int .i64 f, .int .i64 t] 23))
  have H1 := Lib.hid (fun w' => Opening_any f t w')
  have H2 := Lib.hid (fun w' => qwithin_any (opI f t) 0 900 w')
  unfold vwB
  obtain ⟨o, ho⟩ : ∃ z, opI f t = z := ⟨_, rfl⟩
  rw [ho] at H1 H2 ⊢
  obtain ⟨b, hb⟩ : ∃ z, ciB o 0 900 = z := ⟨_, rfl⟩
  rw [hb] at H2 ⊢
  clear ho hb
  go_enter Try.func30, Try.ntmps30
  go_wp2_with fail
  refine (H1.out _).mono ?_
  rintro e w1 ⟨rfl, hb⟩
  have HB1 := Lib.hid (HB.out.trans (hb.mono HB.out.size))
  clear hb
  go_wp2_with fail
  refine (H2.out _).mono ?_
  rintro e w2 ⟨rfl, rfl⟩
  go_wp2_with fail
  go_ret
  exact ⟨rfl, HB1.out⟩
/-- A place lies in a wedge. -/
def lsB (f t a b c d : Int) : Bool := brB a b c d && vwB f t && decide ((brDn a b c d - f) % 3600 ≤ opI f t) && decide ((brUp a b c d - f) % 3600 ≤ opI f t)
theorem br_bd (a b c d : Int) : (0 ≤ brDn a b c d ∧ brDn a b c d ≤ 172900) ∧ 0 ≤ brUp a b c d ∧ brUp a b c d ≤ 172900 := by
  unfold brDn brUp
  by_cases h : brB a b c d = true
  · rw [if_pos h, if_pos h]
    obtain ⟨k1, k2, k3⟩ := brB_ok h
    obtain ⟨j1, j2, j3, j4, _⟩ := tw_ok (x := c - a) (y := d - b) (by omega) (by omega) k3
    exact ⟨⟨Int.ediv_nonneg (by omega) (by omega), Int.le_trans (Int.ediv_le_self _ (by omega)) (by omega)⟩, Int.ediv_nonneg (by omega) (by omega), Int.le_trans (Int.ediv_le_self _ (by omega)) (by omega)⟩
  · rw [if_neg h, if_neg h]; omega
set_option maxRecDepth 100000 in
set_option maxHeartbeats 4000000 in
theorem Lies_any (f t a b c d : Int) (w : World) : Calls Try.prog 15 #[.agg #[.int .i64 f, .int .i64 t], .agg #[.int .i64 a, .int .i64 b], .agg #[.int .i64 c, .int .i64 d]] w fun e w' => e = .returned (.bool (lsB f t a b c d)) ∧ Below w.heap.size w w' := by
  have H1 := Lib.hid (fun w' => bearingOf_any a b c d w')
  have H2 := Lib.hid (fun w' => validWedge_any f t w')
  have H3 := Lib.hid (fun w' => Opening_any f t w')
  have HBD := Lib.hid (br_bd a b c d)
  have HVW := Lib.hid (vw_ok (f := f) (t := t))
  have HL : Hid (lsB f t a b c d = (brB a b c d && vwB f t && decide ((brDn a b c d - f) % 3600 ≤ opI f t) && decide ((brUp a b c d - f) % 3600 ≤ opI f t))) := Lib.hid rfl
  obtain ⟨dn, hdn⟩ : ∃ z, brDn a b c d = z := ⟨_, rfl⟩
  obtain ⟨up, hup⟩ : ∃ z, brUp a b c d = z := ⟨_, rfl⟩
  obtain ⟨ok, hok⟩ : ∃ z, brB a b c d = z := ⟨_, rfl⟩
  obtain ⟨vw, hvw⟩ : ∃ z, vwB f t = z := ⟨_, rfl⟩
  obtain ⟨o, ho⟩ : ∃ z, opI f t = z := ⟨_, rfl⟩
  obtain ⟨L, hL⟩ : ∃ z, lsB f t a b c d = z := ⟨_, rfl⟩
  rw [hdn, hup, hok] at H1 HL
  rw [hdn, hup] at HBD
  rw [hvw] at H2 HL HVW
  rw [ho] at H3 HL HVW
  rw [hL] at HL ⊢
  have HA := Lib.hid (fun W' => cells3 w #[.int .i64 f, .int .i64 t] #[.int .i64 a, .int .i64 b] #[.int .i64 c, .int .i64 d] 23 25 25 (W := W'))
  have HB0 := Lib.hid (Below.refl (((w.alloc (.cells #[.int .i64 f, .int .i64 t] 23)).alloc (.cells #[.int .i64 a, .int .i64 b] 25)).alloc (.cells #[.int .i64 c, .int .i64 d] 25)).heap.size (((w.alloc (.cells #[.int .i64 f, .int .i64 t] 23)).alloc (.cells #[.int .i64 a, .int .i64 b] 25)).alloc (.cells #[.int .i64 c, .int .i64 d] 25)))
  obtain ⟨Z, hZ⟩ : ∃ Z, (((w.alloc (.cells #[.int .i64 f, .int .i64 t] 23)).alloc (.cells #[.int .i64 a, .int .i64 b] 25)).alloc (.cells #[.int .i64 c, .int .i64 d] 25)) = Z := ⟨_, rfl⟩
  rw [hZ] at HA HB0
  have HZ := Lib.hid hZ
  clear hZ hdn hup hok hvw ho hL
  go_enter Try.func15, Try.ntmps15
  go_wp2_with fail
  rw [HZ.out]
  refine (H1.out Z).mono ?_
  rintro e w1 ⟨rfl, hb⟩
  have hY := cells1 w1 #[.int .i64 dn, .int .i64 up] 90 (Below.refl _ _)
  have HBY := Lib.hid (HB0.out.trans (hb.trans (hY.2.2.mono hb.size)))
  have HQY := Lib.hid hY.1
  obtain ⟨y, hy⟩ : ∃ y, w1.heap.size = y := ⟨_, rfl⟩
  rw [hy] at HQY
  obtain ⟨Y, hYY⟩ : ∃ Y, w1.alloc (.cells #[.int .i64 dn, .int .i64 up] 90) = Y := ⟨_, rfl⟩
  rw [hYY] at HBY HQY
  have HYY := Lib.hid hYY
  have HLY : Hid (y < Y.heap.size) := Lib.hid (Array.getElem?_eq_some_iff.1 HQY.out).1
  have HRD : Hid (∀ W', Below Y.heap.size Y W' → (W'.cell? ⟨w.heap.size, 0, none⟩ = some (.int .i64 f) ∧ W'.cell? ⟨w.heap.size, 1, none⟩ = some (.int .i64 t) ∧ W'.cell? ⟨y, 0, none⟩ = some (.int .i64 dn) ∧ W'.cell? ⟨y, 1, none⟩ = some (.int .i64 up))) := Lib.hid (fun W' h => by
    have h1 := HBY.out.trans (h.mono HBY.out.size)
    obtain ⟨x1, _⟩ := HA.out W' h1
    have h2 := (h.block _ HLY.out).trans HQY.out
    exact ⟨cellH x1 0, cellH x1 1, cellH h2 0, cellH h2 1⟩)
  have HEND : Hid (∀ W', Below Y.heap.size Y W' → Below w.heap.size w W') := Lib.hid (fun W' h => by
    have h1 := HBY.out.trans (h.mono HBY.out.size)
    exact (HA.out W' h1).2.2.2.2)
  have C2 := Lib.hid (upC (Z := Y) H2.out)
  have C3 := Lib.hid (upC (Z := Y) H3.out)
  clear hY hb hYY
  have dummy : True := trivial
  cases ok
  · have HLL : Hid (L = false) := Lib.hid (by rw [HL.out]; rfl)
    go_wp2_with fail
    rw [HYY.out]
    refine wp_region_turn 27 (fun _ w' => Below Y.heap.size Y w') (by kernel_rfl) (by kernel_rfl) ((Below.refl _ Y).drew) ?_
    simp only [List.take_succ_cons, List.take_zero, List.drop_succ_cons, List.drop_zero]
    iterate 27
      (first
        | (apply turnC_skip (by rfl))
        | (apply turnC_step (by rfl); (intro w' hw'; obtain ⟨q0, q1, q2, q3⟩ := HRD.out w' hw'; go_simp; first | exact ⟨hw', rfl⟩ | exact rfl))
        | (apply turnC_step (by rfl); (intro w' hw'; go_simp; first | exact C2.out w' hw' | exact C3.out w' hw')))
      simp only [Act.put, List.setIfInBounds_toArray, List.set_cons_succ, List.set_cons_zero]
    intro listed w5 _ hw5
    have HB5 := Lib.hid (HEND.out _ hw5)
    clear hw5
    go_wp2_with fail
    go_ret
    exact ⟨by rw [HLL.out]; rfl, HB5.out⟩
  cases vw
  · have HLL : Hid (L = false) := Lib.hid (by rw [HL.out]; rfl)
    go_wp2_with fail
    rw [HYY.out]
    refine wp_region_turn 27 (fun _ w' => Below Y.heap.size Y w') (by kernel_rfl) (by kernel_rfl) ((Below.refl _ Y).drew) ?_
    simp only [List.take_succ_cons, List.take_zero, List.drop_succ_cons, List.drop_zero]
    iterate 27
      (first
        | (apply turnC_skip (by rfl))
        | (apply turnC_step (by rfl); (intro w' hw'; obtain ⟨q0, q1, q2, q3⟩ := HRD.out w' hw'; go_simp; first | exact ⟨hw', rfl⟩ | exact rfl))
        | (apply turnC_step (by rfl); (intro w' hw'; go_simp; first | exact C2.out w' hw' | exact C3.out w' hw')))
      simp only [Act.put, List.setIfInBounds_toArray, List.set_cons_succ, List.set_cons_zero]
    intro listed w5 _ hw5
    have HB5 := Lib.hid (HEND.out _ hw5)
    clear hw5
    go_wp2_with fail
    go_ret
    exact ⟨by rw [HLL.out]; rfl, HB5.out⟩
  obtain ⟨k1, k2, k3, k4, k5⟩ := HVW.out rfl
  obtain ⟨l1, l2⟩ := HBD.out
  have e1 : IntKind.i64.wrap (dn - f) = dn - f := IntWalk.i64_in _ (by omega)
  have e2 : IntKind.i64.wrap (up - f) = up - f := IntWalk.i64_in _ (by omega)
  have H4 := Lib.hid (fun w' => qturn_any (dn - f) w')
  have H5 := Lib.hid (fun w' => qturn_any (up - f) w')
  obtain ⟨p1, hp1⟩ : ∃ z, (dn - f) % 3600 = z := ⟨_, rfl⟩
  obtain ⟨p2, hp2⟩ : ∃ z, (up - f) % 3600 = z := ⟨_, rfl⟩
  rw [hp1] at H4 HL
  rw [hp2] at H5 HL
  have C4 := Lib.hid (upQ (Z := Y) H4.out)
  have C5 := Lib.hid (upQ (Z := Y) H5.out)
  clear k1 k2 k3 k4 k5 l1 l2 hp1 hp2
  cases g1 : decide (p1 ≤ o)
  · have HLL : Hid (L = false) := Lib.hid (by rw [HL.out, g1]; rfl)
    go_wp2_with fail
    rw [HYY.out]
    refine wp_region_turn 27 (fun _ w' => Below Y.heap.size Y w') (by kernel_rfl) (by kernel_rfl) ((Below.refl _ Y).drew) ?_
    simp only [List.take_succ_cons, List.take_zero, List.drop_succ_cons, List.drop_zero]
    iterate 27
      (first
        | (apply turnC_skip (by rfl))
        | (apply turnC_step (by rfl); (intro w' hw'; obtain ⟨q0, q1, q2, q3⟩ := HRD.out w' hw'; go_simp; first | exact ⟨hw', congrArg Value.bool g1⟩ | exact ⟨hw', rfl⟩ | exact rfl))
        | (apply turnC_step (by rfl); (intro w' hw'; go_simp; first | exact C2.out w' hw' | exact C3.out w' hw' | (rw [e1]; exact C4.out w' hw') | exact C4.out w' hw' | (rw [e2]; exact C5.out w' hw') | exact C5.out w' hw')))
      simp only [Act.put, List.setIfInBounds_toArray, List.set_cons_succ, List.set_cons_zero]
    intro listed w5 _ hw5
    have HB5 := Lib.hid (HEND.out _ hw5)
    clear hw5
    go_wp2_with fail
    go_ret
    exact ⟨by rw [HLL.out]; rfl, HB5.out⟩
  cases g2 : decide (p2 ≤ o)
  · have HLL : Hid (L = false) := Lib.hid (by rw [HL.out, g1, g2]; rfl)
    go_wp2_with fail
    rw [HYY.out]
    refine wp_region_turn 27 (fun _ w' => Below Y.heap.size Y w') (by kernel_rfl) (by kernel_rfl) ((Below.refl _ Y).drew) ?_
    simp only [List.take_succ_cons, List.take_zero, List.drop_succ_cons, List.drop_zero]
    iterate 27
      (first
        | (apply turnC_skip (by rfl))
        | (apply turnC_step (by rfl); (intro w' hw'; obtain ⟨q0, q1, q2, q3⟩ := HRD.out w' hw'; go_simp; first | exact ⟨hw', congrArg Value.bool g1⟩ | exact ⟨hw', congrArg Value.bool g2⟩ | exact ⟨hw', rfl⟩ | exact rfl))
        | (apply turnC_step (by rfl); (intro w' hw'; go_simp; first | exact C2.out w' hw' | exact C3.out w' hw' | (rw [e1]; exact C4.out w' hw') | exact C4.out w' hw' | (rw [e2]; exact C5.out w' hw') | exact C5.out w' hw')))
      simp only [Act.put, List.setIfInBounds_toArray, List.set_cons_succ, List.set_cons_zero]
    intro listed w5 _ hw5
    have HB5 := Lib.hid (HEND.out _ hw5)
    clear hw5
    go_wp2_with fail
    go_ret
    exact ⟨by rw [HLL.out]; rfl, HB5.out⟩
  · have HLL : Hid (L = true) := Lib.hid (by rw [HL.out, g1, g2]; rfl)
    go_wp2_with fail
    rw [HYY.out]
    refine wp_region_turn 27 (fun _ w' => Below Y.heap.size Y w') (by kernel_rfl) (by kernel_rfl) ((Below.refl _ Y).drew) ?_
    simp only [List.take_succ_cons, List.take_zero, List.drop_succ_cons, List.drop_zero]
    iterate 27
      (first
        | (apply turnC_skip (by rfl))
        | (apply turnC_step (by rfl); (intro w' hw'; obtain ⟨q0, q1, q2, q3⟩ := HRD.out w' hw'; go_simp; first | exact ⟨hw', congrArg Value.bool g1⟩ | exact ⟨hw', congrArg Value.bool g2⟩ | exact ⟨hw', rfl⟩ | exact rfl))
        | (apply turnC_step (by rfl); (intro w' hw'; go_simp; first | exact C2.out w' hw' | exact C3.out w' hw' | (rw [e1]; exact C4.out w' hw') | exact C4.out w' hw' | (rw [e2]; exact C5.out w' hw') | exact C5.out w' hw')))
      simp only [Act.put, List.setIfInBounds_toArray, List.set_cons_succ, List.set_cons_zero]
    intro listed w5 _ hw5
    have HB5 := Lib.hid (HEND.out _ hw5)
    clear hw5
    go_wp2_with fail
    go_ret
    exact ⟨by rw [HLL.out]; rfl, HB5.out⟩
end Go.Proofs.Ytpaihnjgpookjaa
