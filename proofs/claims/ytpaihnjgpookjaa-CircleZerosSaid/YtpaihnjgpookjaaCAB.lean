/- Merged: CA5, CA6, CA7, CA8. -/
import Derived.Test.YtpaihnjgpookjaaCAA
import Derived.Test.YtpaihnjgpookjaaHIA
/- Package circle: Opening, validWedge, Lies, Widen. -/
set_option linter.unusedVariables false
set_option linter.unusedSimpArgs false
namespace Go.Proofs.Ytpaihnjgpookjaa
open Go Go.RowKit

theorem upC {P : Program} {f : FuncId} {args : Array Value} {v : Value} {Z : World} (h : ∀ w, Calls P f args w fun e w' => e = .returned v ∧ Below w.heap.size w w') : ∀ w', Below Z.heap.size Z w' → Calls P f args w' fun e w'' => e = .returned v ∧ Below Z.heap.size Z w'' :=
  fun w' h' => (h w').mono fun e w'' ⟨he, hh⟩ => ⟨he, h'.trans (hh.mono h'.size)⟩
theorem upQ {P : Program} {f : FuncId} {args : Array Value} {v : Value} {Z : World} (h : ∀ w, Calls P f args w fun e w' => e = .returned v ∧ w' = w) : ∀ w', Below Z.heap.size Z w' → Calls P f args w' fun e w'' => e = .returned v ∧ Below Z.heap.size Z w'' :=
  fun w' h' => (h w').mono fun e w'' ⟨he, hh⟩ => ⟨he, hh ▸ h'⟩
/-- The opening of a wedge. -/
def opI (f t : Int) : Int := if ciB f 0 3599 && ciB t 0 3599 then (t - f) % 3600 else -1
def vwB (f t : Int) : Bool := ciB (opI f t) 0 900
theorem opI_bd (f t : Int) : -1 ≤ opI f t ∧ opI f t < 3600 := by unfold opI; split <;> omega
theorem vw_ok {f t : Int} (h : vwB f t = true) : (0 ≤ f ∧ f ≤ 3599) ∧ (0 ≤ t ∧ t ≤ 3599) ∧ opI f t = (t - f) % 3600 ∧ 0 ≤ opI f t ∧ opI f t ≤ 900 := by
  unfold vwB at h
  rw [ci_iff] at h
  unfold opI at *
  split at h
  · rename_i hh
    rw [if_pos hh]
    rw [Bool.and_eq_true, ci_iff, ci_iff] at hh
    exact ⟨hh.1, hh.2, rfl, h⟩
  · omega
set_option maxRecDepth 100000 in
theorem Opening_any (f t : Int) (w : World) : Calls Try.prog 13 #[.agg #[.int .i64 f, .int .i64 t]] w fun e w' => e = .returned (.int .i64 (opI f t)) ∧ Below w.heap.size w w' := by
  have HB := Lib.hid ((Below.refl w.heap.size w).alloc (Nat.le_refl _) (.cells #[.int .i64 f, .int .i64 t] 23))
  have H1 := Lib.hid (fun w' => validDivision_any f w')
  have H2 := Lib.hid (fun w' => validDivision_any t w')
  have HO : Hid (opI f t = if ciB f 0 3599 && ciB t 0 3599 then (t - f) % 3600 else -1) := Lib.hid rfl
  obtain ⟨b1, hb1⟩ : ∃ z, ciB f 0 3599 = z := ⟨_, rfl⟩
  obtain ⟨b2, hb2⟩ : ∃ z, ciB t 0 3599 = z := ⟨_, rfl⟩
  obtain ⟨o, ho⟩ : ∃ z, opI f t = z := ⟨_, rfl⟩
  rw [hb1] at H1 HO
  rw [hb2] at H2 HO
  rw [ho] at HO ⊢
  have HB1 := Lib.hid hb1
  have HB2 := Lib.hid hb2
  clear hb1 hb2 ho
  go_enter Try.func13, Try.ntmps13
  go_wp2_with fail
  refine (H1.out _).mono ?_
  rintro e w1 ⟨rfl, rfl⟩
  cases b1
  · go_wp2_with fail
    go_ret
    exact ⟨by rw [HO.out]; rfl, HB.out⟩
  go_wp2_with fail
  refine (H2.out _).mono ?_
  rintro e w1 ⟨rfl, rfl⟩
  cases b2
  · go_wp2_with fail
    go_ret
    exact ⟨by rw [HO.out]; rfl, HB.out⟩
  have h1 := ci_iff.1 HB1.out
  have h2 := ci_iff.1 HB2.out
  have e1 : IntKind.i64.wrap (t - f) = t - f := IntWalk.i64_in _ (by omega)
  have HT := Lib.hid (fun w' => qturn_any (t - f) w')
  have HO2 : Hid ((t - f) % 3600 = o) := Lib.hid (by rw [HO.out]; rfl)
  rw [HO2.out] at HT
  clear h1 h2
  go_wp2_with fail
  refine (HT.out _).mono ?_
  rintro e w1 ⟨rfl, rfl⟩
  go_wp2_with fail
  go_ret
  exact ⟨rfl, HB.out⟩
set_option maxRecDepth 100000 in
theorem validWedge_any (f t : Int) (w : World) : Calls Try.prog 30 #[.agg #[.int .i64 f, .int .i64 t]] w fun e w' => e = .returned (.bool (vwB f t)) ∧ Below w.heap.size w w' := by
  have HB := Lib.hid ((Below.refl w.heap.size w).alloc (Nat.le_refl _) (.cells #[.int .i64 f, .int .i64 t] 23))
  have H1 := Lib.hid (fun w' => Opening_any f t w')
  have H2 := Lib.hid (fun w' => qwithin_any (opI f t) 0 900 w')
  unfold vwB
  obtain ⟨o, ho⟩ : ∃ z, opI f t = z := ⟨_, rfl⟩
  rw [ho] at H1 H2 ⊢
  obtain ⟨b, hb⟩ : ∃ z, ciB o 0 900 = z := ⟨_, rfl⟩
  rw [hb] at H2 ⊢
  clear ho hb
  go_enter Try.func30, Try.ntmps30
  go_wp2_with fail
  refine (H1.out _).mono ?_
  rintro e w1 ⟨rfl, hb⟩
  have HB1 := Lib.hid (HB.out.trans (hb.mono HB.out.size))
  clear hb
  go_wp2_with fail
  refine (H2.out _).mono ?_
  rintro e w2 ⟨rfl, rfl⟩
  go_wp2_with fail
  go_ret
  exact ⟨rfl, HB1.out⟩
/-- A place lies in a wedge. -/
def lsB (f t a b c d : Int) : Bool := brB a b c d && vwB f t && decide ((brDn a b c d - f) % 3600 ≤ opI f t) && decide ((brUp a b c d - f) % 3600 ≤ opI f t)
theorem br_bd (a b c d : Int) : (0 ≤ brDn a b c d ∧ brDn a b c d ≤ 172900) ∧ 0 ≤ brUp a b c d ∧ brUp a b c d ≤ 172900 := by
  unfold brDn brUp
  by_cases h : brB a b c d = true
  · rw [if_pos h, if_pos h]
    obtain ⟨k1, k2, k3⟩ := brB_ok h
    obtain ⟨j1, j2, j3, j4, _⟩ := tw_ok (x := c - a) (y := d - b) (by omega) (by omega) k3
    exact ⟨⟨Int.ediv_nonneg (by omega) (by omega), Int.le_trans (Int.ediv_le_self _ (by omega)) (by omega)⟩, Int.ediv_nonneg (by omega) (by omega), Int.le_trans (Int.ediv_le_self _ (by omega)) (by omega)⟩
  · rw [if_neg h, if_neg h]; omega
set_option maxRecDepth 100000 in
set_option maxHeartbeats 4000000 in
theorem Lies_any (f t a b c d : Int) (w : World) : Calls Try.prog 15 #[.agg #[.int .i64 f, .int .i64 t], .agg #[.int .i64 a, .int .i64 b], .agg #[.int .i64 c, .int .i64 d]] w fun e w' => e = .returned (.bool (lsB f t a b c d)) ∧ Below w.heap.size w w' := by
  have H1 := Lib.hid (fun w' => bearingOf_any a b c d w')
  have H2 := Lib.hid (fun w' => validWedge_any f t w')
  have H3 := Lib.hid (fun w' => Opening_any f t w')
  have HBD := Lib.hid (br_bd a b c d)
  have HVW := Lib.hid (vw_ok (f := f) (t := t))
  have HL : Hid (lsB f t a b c d = (brB a b c d && vwB f t && decide ((brDn a b c d - f) % 3600 ≤ opI f t) && decide ((brUp a b c d - f) % 3600 ≤ opI f t))) := Lib.hid rfl
  obtain ⟨dn, hdn⟩ : ∃ z, brDn a b c d = z := ⟨_, rfl⟩
  obtain ⟨up, hup⟩ : ∃ z, brUp a b c d = z := ⟨_, rfl⟩
  obtain ⟨ok, hok⟩ : ∃ z, brB a b c d = z := ⟨_, rfl⟩
  obtain ⟨vw, hvw⟩ : ∃ z, vwB f t = z := ⟨_, rfl⟩
  obtain ⟨o, ho⟩ : ∃ z, opI f t = z := ⟨_, rfl⟩
  obtain ⟨L, hL⟩ : ∃ z, lsB f t a b c d = z := ⟨_, rfl⟩
  rw [hdn, hup, hok] at H1 HL
  rw [hdn, hup] at HBD
  rw [hvw] at H2 HL HVW
  rw [ho] at H3 HL HVW
  rw [hL] at HL ⊢
  have HA := Lib.hid (fun W' => cells3 w #[.int .i64 f, .int .i64 t] #[.int .i64 a, .int .i64 b] #[.int .i64 c, .int .i64 d] 23 25 25 (W := W'))
  have HB0 := Lib.hid (Below.refl (((w.alloc (.cells #[.int .i64 f, .int .i64 t] 23)).alloc (.cells #[.int .i64 a, .int .i64 b] 25)).alloc (.cells #[.int .i64 c, .int .i64 d] 25)).heap.size (((w.alloc (.cells #[.int .i64 f, .int .i64 t] 23)).alloc (.cells #[.int .i64 a, .int .i64 b] 25)).alloc (.cells #[.int .i64 c, .int .i64 d] 25)))
  obtain ⟨Z, hZ⟩ : ∃ Z, (((w.alloc (.cells #[.int .i64 f, .int .i64 t] 23)).alloc (.cells #[.int .i64 a, .int .i64 b] 25)).alloc (.cells #[.int .i64 c, .int .i64 d] 25)) = Z := ⟨_, rfl⟩
  rw [hZ] at HA HB0
  have HZ := Lib.hid hZ
  clear hZ hdn hup hok hvw ho hL
  go_enter Try.func15, Try.ntmps15
  go_wp2_with fail
  rw [HZ.out]
  refine (H1.out Z).mono ?_
  rintro e w1 ⟨rfl, hb⟩
  have hY := cells1 w1 #[.int .i64 dn, .int .i64 up] 90 (Below.refl _ _)
  have HBY := Lib.hid (HB0.out.trans (hb.trans (hY.2.2.mono hb.size)))
  have HQY := Lib.hid hY.1
  obtain ⟨y, hy⟩ : ∃ y, w1.heap.size = y := ⟨_, rfl⟩
  rw [hy] at HQY
  obtain ⟨Y, hYY⟩ : ∃ Y, w1.alloc (.cells #[.int .i64 dn, .int .i64 up] 90) = Y := ⟨_, rfl⟩
  rw [hYY] at HBY HQY
  have HYY := Lib.hid hYY
  have HLY : Hid (y < Y.heap.size) := Lib.hid (Array.getElem?_eq_some_iff.1 HQY.out).1
  have HRD : Hid (∀ W', Below Y.heap.size Y W' → (W'.cell? ⟨w.heap.size, 0, none⟩ = some (.int .i64 f) ∧ W'.cell? ⟨w.heap.size, 1, none⟩ = some (.int .i64 t) ∧ W'.cell? ⟨y, 0, none⟩ = some (.int .i64 dn) ∧ W'.cell? ⟨y, 1, none⟩ = some (.int .i64 up))) := Lib.hid (fun W' h => by
    have h1 := HBY.out.trans (h.mono HBY.out.size)
    obtain ⟨x1, _⟩ := HA.out W' h1
    have h2 := (h.block _ HLY.out).trans HQY.out
    exact ⟨cellH x1 0, cellH x1 1, cellH h2 0, cellH h2 1⟩)
  have HEND : Hid (∀ W', Below Y.heap.size Y W' → Below w.heap.size w W') := Lib.hid (fun W' h => by
    have h1 := HBY.out.trans (h.mono HBY.out.size)
    exact (HA.out W' h1).2.2.2.2)
  have C2 := Lib.hid (upC (Z := Y) H2.out)
  have C3 := Lib.hid (upC (Z := Y) H3.out)
  clear hY hb hYY
  have dummy : True := trivial
  cases ok
  · have HLL : Hid (L = false) := Lib.hid (by rw [HL.out]; rfl)
    go_wp2_with fail
    rw [HYY.out]
    refine wp_region_turn 27 (fun _ w' => Below Y.heap.size Y w') (by kernel_rfl) (by kernel_rfl) ((Below.refl _ Y).drew) ?_
    simp only [List.take_succ_cons, List.take_zero, List.drop_succ_cons, List.drop_zero]
    iterate 27
      (first
        | (apply turnC_skip (by rfl))
        | (apply turnC_step (by rfl); (intro w' hw'; obtain ⟨q0, q1, q2, q3⟩ := HRD.out w' hw'; go_simp; first | exact ⟨hw', rfl⟩ | exact rfl))
        | (apply turnC_step (by rfl); (intro w' hw'; go_simp; first | exact C2.out w' hw' | exact C3.out w' hw')))
      simp only [Act.put, List.setIfInBounds_toArray, List.set_cons_succ, List.set_cons_zero]
    intro listed w5 _ hw5
    have HB5 := Lib.hid (HEND.out _ hw5)
    clear hw5
    go_wp2_with fail
    go_ret
    exact ⟨by rw [HLL.out]; rfl, HB5.out⟩
  cases vw
  · have HLL : Hid (L = false) := Lib.hid (by rw [HL.out]; rfl)
    go_wp2_with fail
    rw [HYY.out]
    refine wp_region_turn 27 (fun _ w' => Below Y.heap.size Y w') (by kernel_rfl) (by kernel_rfl) ((Below.refl _ Y).drew) ?_
    simp only [List.take_succ_cons, List.take_zero, List.drop_succ_cons, List.drop_zero]
    iterate 27
      (first
        | (apply turnC_skip (by rfl))
        | (apply turnC_step (by rfl); (intro w' hw'; obtain ⟨q0, q1, q2, q3⟩ := HRD.out w' hw'; go_simp; first | exact ⟨hw', rfl⟩ | exact rfl))
        | (apply turnC_step (by rfl); (intro w' hw'; go_simp; first | exact C2.out w' hw' | exact C3.out w' hw')))
      simp only [Act.put, List.setIfInBounds_toArray, List.set_cons_succ, List.set_cons_zero]
    intro listed w5 _ hw5
    have HB5 := Lib.hid (HEND.out _ hw5)
    clear hw5
    go_wp2_with fail
    go_ret
    exact ⟨by rw [HLL.out]; rfl, HB5.out⟩
  obtain ⟨k1, k2, k3, k4, k5⟩ := HVW.out rfl
  obtain ⟨l1, l2⟩ := HBD.out
  have e1 : IntKind.i64.wrap (dn - f) = dn - f := IntWalk.i64_in _ (by omega)
  have e2 : IntKind.i64.wrap (up - f) = up - f := IntWalk.i64_in _ (by omega)
  have H4 := Lib.hid (fun w' => qturn_any (dn - f) w')
  have H5 := Lib.hid (fun w' => qturn_any (up - f) w')
  obtain ⟨p1, hp1⟩ : ∃ z, (dn - f) % 3600 = z := ⟨_, rfl⟩
  obtain ⟨p2, hp2⟩ : ∃ z, (up - f) % 3600 = z := ⟨_, rfl⟩
  rw [hp1] at H4 HL
  rw [hp2] at H5 HL
  have C4 := Lib.hid (upQ (Z := Y) H4.out)
  have C5 := Lib.hid (upQ (Z := Y) H5.out)
  clear k1 k2 k3 k4 k5 l1 l2 hp1 hp2
  cases g1 : decide (p1 ≤ o)
  · have HLL : Hid (L = false) := Lib.hid (by rw [HL.out, g1]; rfl)
    go_wp2_with fail
    rw [HYY.out]
    refine wp_region_turn 27 (fun _ w' => Below Y.heap.size Y w') (by kernel_rfl) (by kernel_rfl) ((Below.refl _ Y).drew) ?_
    simp only [List.take_succ_cons, List.take_zero, List.drop_succ_cons, List.drop_zero]
    iterate 27
      (first
        | (apply turnC_skip (by rfl))
        | (apply turnC_step (by rfl); (intro w' hw'; obtain ⟨q0, q1, q2, q3⟩ := HRD.out w' hw'; go_simp; first | exact ⟨hw', congrArg Value.bool g1⟩ | exact ⟨hw', rfl⟩ | exact rfl))
        | (apply turnC_step (by rfl); (intro w' hw'; go_simp; first | exact C2.out w' hw' | exact C3.out w' hw' | (rw [e1]; exact C4.out w' hw') | exact C4.out w' hw' | (rw [e2]; exact C5.out w' hw') | exact C5.out w' hw')))
      simp only [Act.put, List.setIfInBounds_toArray, List.set_cons_succ, List.set_cons_zero]
    intro listed w5 _ hw5
    have HB5 := Lib.hid (HEND.out _ hw5)
    clear hw5
    go_wp2_with fail
    go_ret
    exact ⟨by rw [HLL.out]; rfl, HB5.out⟩
  cases g2 : decide (p2 ≤ o)
  · have HLL : Hid (L = false) := Lib.hid (by rw [HL.out, g1, g2]; rfl)
    go_wp2_with fail
    rw [HYY.out]
    refine wp_region_turn 27 (fun _ w' => Below Y.heap.size Y w') (by kernel_rfl) (by kernel_rfl) ((Below.refl _ Y).drew) ?_
    simp only [List.take_succ_cons, List.take_zero, List.drop_succ_cons, List.drop_zero]
    iterate 27
      (first
        | (apply turnC_skip (by rfl))
        | (apply turnC_step (by rfl); (intro w' hw'; obtain ⟨q0, q1, q2, q3⟩ := HRD.out w' hw'; go_simp; first | exact ⟨hw', congrArg Value.bool g1⟩ | exact ⟨hw', congrArg Value.bool g2⟩ | exact ⟨hw', rfl⟩ | exact rfl))
        | (apply turnC_step (by rfl); (intro w' hw'; go_simp; first | exact C2.out w' hw' | exact C3.out w' hw' | (rw [e1]; exact C4.out w' hw') | exact C4.out w' hw' | (rw [e2]; exact C5.out w' hw') | exact C5.out w' hw')))
      simp only [Act.put, List.setIfInBounds_toArray, List.set_cons_succ, List.set_cons_zero]
    intro listed w5 _ hw5
    have HB5 := Lib.hid (HEND.out _ hw5)
    clear hw5
    go_wp2_with fail
    go_ret
    exact ⟨by rw [HLL.out]; rfl, HB5.out⟩
  · have HLL : Hid (L = true) := Lib.hid (by rw [HL.out, g1, g2]; rfl)
    go_wp2_with fail
    rw [HYY.out]
    refine wp_region_turn 27 (fun _ w' => Below Y.heap.size Y w') (by kernel_rfl) (by kernel_rfl) ((Below.refl _ Y).drew) ?_
    simp only [List.take_succ_cons, List.take_zero, List.drop_succ_cons, List.drop_zero]
    iterate 27
      (first
        | (apply turnC_skip (by rfl))
        | (apply turnC_step (by rfl); (intro w' hw'; obtain ⟨q0, q1, q2, q3⟩ := HRD.out w' hw'; go_simp; first | exact ⟨hw', congrArg Value.bool g1⟩ | exact ⟨hw', congrArg Value.bool g2⟩ | exact ⟨hw', rfl⟩ | exact rfl))
        | (apply turnC_step (by rfl); (intro w' hw'; go_simp; first | exact C2.out w' hw' | exact C3.out w' hw' | (rw [e1]; exact C4.out w' hw') | exact C4.out w' hw' | (rw [e2]; exact C5.out w' hw') | exact C5.out w' hw')))
      simp only [Act.put, List.setIfInBounds_toArray, List.set_cons_succ, List.set_cons_zero]
    intro listed w5 _ hw5
    have HB5 := Lib.hid (HEND.out _ hw5)
    clear hw5
    go_wp2_with fail
    go_ret
    exact ⟨by rw [HLL.out]; rfl, HB5.out⟩
end Go.Proofs.Ytpaihnjgpookjaa
/- Package circle: least, greatest, leftOf, Widen, Halves. -/
set_option linter.unusedVariables false
set_option linter.unusedSimpArgs false
namespace Go.Proofs.Ytpaihnjgpookjaa
open Go Go.RowKit

def minL (n : Int) (l : List Int) : Int := l.foldl min n
def maxL (n : Int) (l : List Int) : Int := l.foldl max n
set_option maxRecDepth 100000 in
set_option maxHeartbeats 1000000 in
theorem least_any (n : Int) (v : Value) (l : List Int) (w : World) (hv : INRow w v l) (hl : l.length ≤ 1000000) :
    Calls Try.prog 32 #[.int .i64 n, v] w fun e w' => e = .returned (.int .i64 (minL n l)) ∧ w' = w := by
  obtain ⟨a, cap, rfl, hc⟩ := hv.form
  have HC := Lib.hid hc
  have HL : Hid (∀ k m, k < l.length → min (m : Int) (l.getD k 0) = m → True) := Lib.hid (fun _ _ _ _ => trivial)
  clear hc hv HL
  go_enter Try.func32, Try.ntmps32
  go_wp2_with fail
  go_loopw [0, 6, 9] (fun x y z wr => ∃ (k : Nat) (m : Int) (o : Value), k ≤ l.length ∧ x = .int .i64 m ∧ y = o ∧ z = .int .i64 k ∧ Hid (m = minL n (l.take k)) ∧ wr = w) (fun _ _ z _ => l.length - (intOf z).toNat)
  case atStart => exact ⟨0, n, _, Nat.zero_le _, rfl, rfl, rfl, Lib.hid rfl, rfl⟩
  case round =>
    obtain ⟨k, m, o, hk, rfl, rfl, rfl, hM, rfl⟩ := hrel
    by_cases hkl : k < l.length
    · obtain ⟨b, off, rfl, hb, c0⟩ := HC.out k hkl
      have hki : (k : Int) < l.length := by omega
      have hk0 : (0 : Int) ≤ k := by omega
      have HN : Hid (minL n (l.take (k + 1)) = min m (l.getD k 0)) := Lib.hid (by
        rw [List.take_succ_eq_append_getElem hkl, hM.out, List.getD_eq_getElem?_getD, List.getElem?_eq_getElem hkl]
        unfold minL; rw [List.foldl_append]; rfl)
      obtain ⟨x, hx⟩ : ∃ x, l.getD k 0 = x := ⟨_, rfl⟩
      rw [hx] at c0 HN
      clear hx
      go_wp2_with fail
      go_roundw
      case rel => exact ⟨k + 1, _, _, by omega, rfl, rfl, by go_num, Lib.hid HN.out.symm, by first | rfl | trivial⟩
      case measure => simp [intOf]; omega
    · obtain rfl : k = l.length := by omega
      have HN : Hid (m = minL n l) := Lib.hid (by rw [hM.out, List.take_length])
      go_wp2_with fail
      go_ret
      exact ⟨by rw [← HN.out]; rfl, rfl⟩
set_option maxRecDepth 100000 in
set_option maxHeartbeats 1000000 in
theorem greatest_any (n : Int) (v : Value) (l : List Int) (w : World) (hv : INRow w v l) (hl : l.length ≤ 1000000) :
    Calls Try.prog 80 #[.int .i64 n, v] w fun e w' => e = .returned (.int .i64 (maxL n l)) ∧ w' = w := by
  obtain ⟨a, cap, rfl, hc⟩ := hv.form
  have HC := Lib.hid hc
  have HL : Hid (∀ k m, k < l.length → max (m : Int) (l.getD k 0) = m → True) := Lib.hid (fun _ _ _ _ => trivial)
  clear hc hv HL
  go_enter Try.func80, Try.ntmps80
  go_wp2_with fail
  go_loopw [0, 6, 9] (fun x y z wr => ∃ (k : Nat) (m : Int) (o : Value), k ≤ l.length ∧ x = .int .i64 m ∧ y = o ∧ z = .int .i64 k ∧ Hid (m = maxL n (l.take k)) ∧ wr = w) (fun _ _ z _ => l.length - (intOf z).toNat)
  case atStart => exact ⟨0, n, _, Nat.zero_le _, rfl, rfl, rfl, Lib.hid rfl, rfl⟩
  case round =>
    obtain ⟨k, m, o, hk, rfl, rfl, rfl, hM, rfl⟩ := hrel
    by_cases hkl : k < l.length
    · obtain ⟨b, off, rfl, hb, c0⟩ := HC.out k hkl
      have hki : (k : Int) < l.length := by omega
      have hk0 : (0 : Int) ≤ k := by omega
      have HN : Hid (maxL n (l.take (k + 1)) = max m (l.getD k 0)) := Lib.hid (by
        rw [List.take_succ_eq_append_getElem hkl, hM.out, List.getD_eq_getElem?_getD, List.getElem?_eq_getElem hkl]
        unfold maxL; rw [List.foldl_append]; rfl)
      obtain ⟨x, hx⟩ : ∃ x, l.getD k 0 = x := ⟨_, rfl⟩
      rw [hx] at c0 HN
      clear hx
      go_wp2_with fail
      go_roundw
      case rel => exact ⟨k + 1, _, _, by omega, rfl, rfl, by go_num, Lib.hid HN.out.symm, by first | rfl | trivial⟩
      case measure => simp [intOf]; omega
    · obtain rfl : k = l.length := by omega
      have HN : Hid (m = maxL n l) := Lib.hid (by rw [hM.out, List.take_length])
      go_wp2_with fail
      go_ret
      exact ⟨by rw [← HN.out]; rfl, rfl⟩
/-! leftOf. -/
theorem info_hf3 : (Try.prog.info? 38).map (·.size) = some 3 := by kernel_rfl
theorem mul_cc {a b : Int} (ha : -450 ≤ a ∧ a ≤ 450) (hb : 0 ≤ b ∧ b ≤ 48) : -21600 ≤ a * b ∧ a * b ≤ 21600 := by
  have h1 := Int.mul_nonneg (show 0 ≤ a + 450 by omega) hb.1
  have h2 := Int.mul_nonneg (show 0 ≤ 450 - a by omega) hb.1
  rw [Int.add_mul] at h1
  rw [Int.sub_mul] at h2
  omega
set_option maxRecDepth 100000 in
set_option maxHeartbeats 1000000 in
theorem leftOf_any (vx vy a b : Int) (w : World) (hx : -450 ≤ vx ∧ vx ≤ 450) (hy : -450 ≤ vy ∧ vy ≤ 450) (ha : 0 ≤ a ∧ a ≤ 48) (hb : 0 ≤ b ∧ b ≤ 48) :
    Calls Try.prog 47 #[.agg #[.int .i64 vx, .int .i64 vy], .agg #[.int .i64 a, .int .i64 b]] w fun e w' => e = .returned (.agg #[.int .i64 vy, .int .i64 (-vx), .int .i64 (vy * a - vx * b)]) ∧ Below w.heap.size w w' := by
  have h1 := mul_cc hy ha
  have h2 := mul_cc hx hb
  obtain ⟨p, hp⟩ : ∃ z, vy * a = z := ⟨_, rfl⟩
  obtain ⟨q, hq⟩ : ∃ z, vx * b = z := ⟨_, rfl⟩
  rw [hp] at h1 ⊢
  rw [hq] at h2 ⊢
  have HX := Lib.hid (cells3 w #[.int .i64 vx, .int .i64 vy] #[.int .i64 a, .int .i64 b] #[.int .i64 vy, .int .i64 (-vx), .int .i64 (p - q)] 25 25 38 (Below.refl _ _))
  have e1 : IntKind.i64.wrap p = p := IntWalk.i64_in _ (by omega)
  have e2 : IntKind.i64.wrap q = q := IntWalk.i64_in _ (by omega)
  have e3 : IntKind.i64.wrap (p - q) = p - q := IntWalk.i64_in _ (by omega)
  have e4 : IntKind.i64.wrap (-vx) = -vx := IntWalk.i64_in _ (by omega)
  clear h1 h2 hx hy ha hb
  go_enter Try.func47, Try.ntmps47
  go_wp2_with fail
  refine bodyPost_ret (results_cell_row Try.results47 _ _ (w.heap.size + 1 + 1) 38 #[.int .i64 vy, .int .i64 (-vx), .int .i64 (p - q)] (0, 0) _ rfl HX.out.2.2.1 Try.underlying38 rfl info_hf3) rfl ?_
  exact ⟨rfl, HX.out.2.2.2.2⟩
/-! Widen. -/
def wdB (f t n : Int) : Bool := vwB f t && decide (0 ≤ n) && decide (n ≤ (900 - opI f t) / 2)
def wdF (f t n : Int) : Int := if wdB f t n = true then (f - n) % 3600 else 0
def wdT (f t n : Int) : Int := if wdB f t n = true then (t + n) % 3600 else 0
theorem info_we2 : (Try.prog.info? 23).map (·.size) = some 2 := by kernel_rfl
set_option maxRecDepth 100000 in
set_option maxHeartbeats 2000000 in
theorem Widen_any (f t n : Int) (w : World) : Calls Try.prog 10 #[.agg #[.int .i64 f, .int .i64 t], .int .i64 n] w fun e w' => e = .returned (.tuple #[.agg #[.int .i64 (wdF f t n), .int .i64 (wdT f t n)], .bool (wdB f t n)]) ∧ Below w.heap.size w w' := by
  have H2 := Lib.hid (fun w' => validWedge_any f t w')
  have H3 := Lib.hid (fun w' => Opening_any f t w')
  have HVW := Lib.hid (vw_ok (f := f) (t := t))
  have HBB : Hid (wdB f t n = (vwB f t && decide (0 ≤ n) && decide (n ≤ (900 - opI f t) / 2))) := Lib.hid rfl
  have HF : Hid (wdF f t n = if wdB f t n = true then (f - n) % 3600 else 0) := Lib.hid rfl
  have HT : Hid (wdT f t n = if wdB f t n = true then (t + n) % 3600 else 0) := Lib.hid rfl
  obtain ⟨vw, hvw⟩ : ∃ z, vwB f t = z := ⟨_, rfl⟩
  obtain ⟨o, ho⟩ : ∃ z, opI f t = z := ⟨_, rfl⟩
  obtain ⟨B, hB⟩ : ∃ z, wdB f t n = z := ⟨_, rfl⟩
  obtain ⟨F, hF⟩ : ∃ z, wdF f t n = z := ⟨_, rfl⟩
  obtain ⟨T, hT⟩ : ∃ z, wdT f t n = z := ⟨_, rfl⟩
  rw [hvw] at H2 HBB HVW
  rw [ho] at H3 HBB HVW
  rw [hB] at HBB HF HT ⊢
  rw [hF] at HF ⊢
  rw [hT] at HT ⊢
  have HA := Lib.hid (fun W' => two_cells w #[.int .i64 f, .int .i64 t] #[.int .i64 0, .int .i64 0] 23 23 (W := W'))
  have HB0 := Lib.hid (Below.refl ((w.alloc (.cells #[.int .i64 f, .int .i64 t] 23)).alloc (.cells #[.int .i64 0, .int .i64 0] 23)).heap.size ((w.alloc (.cells #[.int .i64 f, .int .i64 t] 23)).alloc (.cells #[.int .i64 0, .int .i64 0] 23)))
  obtain ⟨Z, hZ⟩ : ∃ Z, (w.alloc (.cells #[.int .i64 f, .int .i64 t] 23)).alloc (.cells #[.int .i64 0, .int .i64 0] 23) = Z := ⟨_, rfl⟩
  rw [hZ] at HA HB0
  have HZ := Lib.hid hZ
  clear hZ hvw ho hB hF hT
  have HRD : Hid (∀ W', Below Z.heap.size Z W' → (W'.cell? ⟨w.heap.size, 0, none⟩ = some (.int .i64 f) ∧ W'.cell? ⟨w.heap.size, 1, none⟩ = some (.int .i64 t)) ∧ (W'.cell? ⟨w.heap.size + 1, 0, none⟩ = some (.int .i64 0) ∧ W'.cell? ⟨w.heap.size + 1, 1, none⟩ = some (.int .i64 0)) ∧ (∀ o, W'.frozen? ⟨w.heap.size + 1, o, none⟩ = false)) := Lib.hid (fun W' h => by
    obtain ⟨x1, x2, _⟩ := HA.out W' h
    exact ⟨⟨cellH x1 0, cellH x1 1⟩, ⟨cellH x2 0, cellH x2 1⟩, freeH x2⟩)
  have HBAD : Hid (∀ (W' : World) (V : Value), B = false → Below Z.heap.size Z W' → True) := Lib.hid (fun _ _ _ _ => trivial)
  clear HBAD
  go_enter Try.func10, Try.ntmps10
  go_wp2_with fail
  rw [HZ.out]
  refine (H2.out Z).mono ?_
  rintro e w1 ⟨rfl, hb⟩
  have HB1 := Lib.hid hb
  obtain ⟨⟨q0, q1⟩, ⟨r0, r1⟩, rf⟩ := HRD.out w1 hb
  clear hb
  cases vw
  · have HN : Hid (B = false) := Lib.hid (by rw [HBB.out]; rfl)
    go_wp2_with fail
    obtain ⟨_, z0, _, zb⟩ := HA.out w1 HB1.out
    obtain ⟨z1, z2⟩ := set2 z0 zb (by omega) (.int .i64 0) (.int .i64 0)
    refine bodyPost_ret (res_ct Try.results10 _ _ (w.heap.size + 1) 23 #[.int .i64 0, .int .i64 0] (0, 0) _ rfl z1 Try.underlying23 rfl info_we2) rfl ?_
    exact ⟨by rw [HF.out, HT.out, HN.out]; rfl, z2⟩
  by_cases hn : n < 0
  · have HN : Hid (B = false) := Lib.hid (by rw [HBB.out, decide_eq_false (by omega : ¬ 0 ≤ n)]; simp)
    go_wp2_with fail
    obtain ⟨_, z0, _, zb⟩ := HA.out w1 HB1.out
    obtain ⟨z1, z2⟩ := set2 z0 zb (by omega) (.int .i64 0) (.int .i64 0)
    refine bodyPost_ret (res_ct Try.results10 _ _ (w.heap.size + 1) 23 #[.int .i64 0, .int .i64 0] (0, 0) _ rfl z1 Try.underlying23 rfl info_we2) rfl ?_
    exact ⟨by rw [HF.out, HT.out, HN.out]; rfl, z2⟩
  obtain ⟨k1, k2, k3, k4, k5⟩ := HVW.out rfl
  have t1 : (900 - o).tdiv 2 = (900 - o) / 2 := Int.tdiv_eq_ediv_of_nonneg (by omega)
  obtain ⟨h, hh⟩ : ∃ z, (900 - o) / 2 = z := ⟨_, rfl⟩
  rw [hh] at t1 HBB
  have e1 : IntKind.i64.wrap (900 - o) = 900 - o := IntWalk.i64_in _ (by omega)
  have e2 : IntKind.i64.wrap h = h := IntWalk.i64_in _ (by omega)
  have HK := Lib.hid (show (0 ≤ f ∧ f ≤ 3599) ∧ (0 ≤ t ∧ t ≤ 3599) ∧ 0 ≤ o ∧ o ≤ 900 ∧ h ≤ 450 by omega)
  clear k1 k2 k3 k4 k5 hh
  have HN0 := Lib.hid hn
  go_wp2_with fail
  refine (H3.out w1).mono ?_
  rintro e w2 ⟨rfl, hb⟩
  have HB2 := Lib.hid (HB1.out.trans (hb.mono HB1.out.size))
  clear hb q0 q1 r0 r1 rf
  obtain ⟨⟨q0, q1⟩, ⟨r0, r1⟩, rf⟩ := HRD.out w2 HB2.out
  by_cases hl : h < n
  · have HN : Hid (B = false) := Lib.hid (by rw [HBB.out, decide_eq_false (by omega : ¬ n ≤ h)]; simp)
    go_wp2_with fail
    obtain ⟨_, z0, _, zb⟩ := HA.out w2 HB2.out
    obtain ⟨z1, z2⟩ := set2 z0 zb (by omega) (.int .i64 0) (.int .i64 0)
    refine bodyPost_ret (res_ct Try.results10 _ _ (w.heap.size + 1) 23 #[.int .i64 0, .int .i64 0] (0, 0) _ rfl z1 Try.underlying23 rfl info_we2) rfl ?_
    exact ⟨by rw [HF.out, HT.out, HN.out]; rfl, z2⟩
  have HN : Hid (B = true) := Lib.hid (by rw [HBB.out, decide_eq_true (by omega : n ≤ h), decide_eq_true (by omega : 0 ≤ n)]; rfl)
  have hk := HK.out
  have e3 : IntKind.i64.wrap (f - n) = f - n := IntWalk.i64_in _ (by omega)
  have e4 : IntKind.i64.wrap (t + n) = t + n := IntWalk.i64_in _ (by omega)
  have C4 := Lib.hid (upQ (Z := w2) (fun w' => qturn_any (f - n) w'))
  have C5 := Lib.hid (upQ (Z := w2) (fun w' => qturn_any (t + n) w'))
  have HFF : Hid ((f - n) % 3600 = F) := Lib.hid (by rw [HF.out, HN.out]; rfl)
  have HTT : Hid ((t + n) % 3600 = T) := Lib.hid (by rw [HT.out, HN.out]; rfl)
  rw [HFF.out] at C4
  rw [HTT.out] at C5
  have HRD2 : Hid (∀ W', Below w2.heap.size w2 W' → (W'.cell? ⟨w.heap.size, 0, none⟩ = some (.int .i64 f) ∧ W'.cell? ⟨w.heap.size, 1, none⟩ = some (.int .i64 t))) := Lib.hid (fun W' h => (HRD.out W' (HB2.out.trans (h.mono HB2.out.size))).1)
  clear hk
  go_wp2_with fail
  refine wp_region_turn 11 (fun _ w' => Below w2.heap.size w2 w') (by kernel_rfl) (by kernel_rfl) ((Below.refl _ w2).drew) ?_
  simp only [List.take_succ_cons, List.take_zero, List.drop_succ_cons, List.drop_zero]
  iterate 11
    (first
      | (apply turnC_step (by rfl); (intro w' hw'; obtain ⟨q0, q1⟩ := HRD2.out w' hw'; go_simp; first | exact ⟨hw', rfl⟩ | exact rfl))
      | (apply turnC_step (by rfl); (intro w' hw'; go_simp; first | (rw [e3]; exact C4.out w' hw') | exact C4.out w' hw' | (rw [e4]; exact C5.out w' hw') | exact C5.out w' hw')))
    simp only [Act.put, List.setIfInBounds_toArray, List.set_cons_succ, List.set_cons_zero]
  intro listed w5 _ hw5
  have HB5 := Lib.hid (HB2.out.trans (hw5.mono HB2.out.size))
  clear hw5 q0 q1 r0 r1 rf
  obtain ⟨⟨q0, q1⟩, ⟨r0, r1⟩, rf⟩ := HRD.out w5 HB5.out
  go_wp2_with fail
  obtain ⟨_, z0, _, zb⟩ := HA.out w5 HB5.out
  obtain ⟨z1, z2⟩ := set2 z0 zb (by omega) (.int .i64 F) (.int .i64 T)
  refine bodyPost_ret (res_ct Try.results10 _ _ (w.heap.size + 1) 23 #[.int .i64 F, .int .i64 T] (0, 0) _ rfl z1 Try.underlying23 rfl info_we2) rfl ?_
  exact ⟨by rw [HN.out]; rfl, z2⟩
end Go.Proofs.Ytpaihnjgpookjaa
/- Package circle: Halves. -/
set_option linter.unusedVariables false
set_option linter.unusedSimpArgs false
namespace Go.Proofs.Ytpaihnjgpookjaa
open Go Go.RowKit

theorem vc_bd (n : Int) : (-450 ≤ vcX n ∧ vcX n ≤ 450) ∧ -450 ≤ vcY n ∧ vcY n ≤ 450 := by
  have h1 := Int.emod_nonneg (n + 450) (show (3600 : Int) ≠ 0 by decide)
  have h2 := Int.emod_lt_of_pos (n + 450) (show (0 : Int) < 3600 by decide)
  unfold vcX vcY
  generalize (n + 450) % 3600 = m at *
  refine ⟨?_, ?_⟩
  · split
    · omega
    · split
      · omega
      · split <;> omega
  · split
    · omega
    · split
      · omega
      · split <;> omega
/-! Halves. -/
def hvB (f t a b : Int) : Bool := vwB f t && !(f == t) && omB a b
/-- The two half-planes of a wedge. -/
def hvV (f t a b : Int) : Value :=
  if hvB f t a b = true then .agg #[.int .i64 (vcY f), .int .i64 (-vcX f), .int .i64 (vcY f * a - vcX f * b), .int .i64 (-vcY t), .int .i64 (vcX t), .int .i64 (-vcY t * a - -vcX t * b)]
  else .agg #[.int .i64 0, .int .i64 0, .int .i64 0, .int .i64 0, .int .i64 0, .int .i64 0]
theorem info_h26 : (Try.prog.info? 39).map (·.size) = some 6 := by kernel_rfl
theorem set6 {w W : World} {q : Nat} {t : TypeId} {x1 x2 x3 x4 x5 x6 : Value} (h : W.heap[q]? = some (Obj.cells #[x1, x2, x3, x4, x5, x6] t (0, 0))) (hb : Below w.heap.size w W) (hq : w.heap.size ≤ q) (a b c d e f : Value) :
    ((((((W.setCell ⟨q, 0, none⟩ a).setCell ⟨q, 1, none⟩ b).setCell ⟨q, 2, none⟩ c).setCell ⟨q, 3, none⟩ d).setCell ⟨q, 4, none⟩ e).setCell ⟨q, 5, none⟩ f).heap[q]? = some (Obj.cells #[a, b, c, d, e, f] t (0, 0)) ∧ Below w.heap.size w ((((((W.setCell ⟨q, 0, none⟩ a).setCell ⟨q, 1, none⟩ b).setCell ⟨q, 2, none⟩ c).setCell ⟨q, 3, none⟩ d).setCell ⟨q, 4, none⟩ e).setCell ⟨q, 5, none⟩ f) :=
  ⟨heap_same (heap_same (heap_same (heap_same (heap_same (heap_same h 0 _) 1 _) 2 _) 3 _) 4 _) 5 _, (((((hb.setCell (p := ⟨q, 0, none⟩) hq _).setCell (p := ⟨q, 1, none⟩) hq _).setCell (p := ⟨q, 2, none⟩) hq _).setCell (p := ⟨q, 3, none⟩) hq _).setCell (p := ⟨q, 4, none⟩) hq _).setCell (p := ⟨q, 5, none⟩) hq _⟩
set_option maxRecDepth 100000 in
set_option maxHeartbeats 4000000 in
theorem Halves_any (f t a b : Int) (w : World) : Calls Try.prog 17 #[.agg #[.int .i64 f, .int .i64 t], .agg #[.int .i64 a, .int .i64 b]] w fun e w' => e = .returned (.tuple #[hvV f t a b, .bool (hvB f t a b)]) ∧ Below w.heap.size w w' := by
  have H1 := Lib.hid (fun w' => validWedge_any f t w')
  have H2 := Lib.hid (fun w' => onMap_any a b w')
  have H3 := Lib.hid (fun w' => Vector_any t w')
  have H4 := Lib.hid (fun w' => Vector_any f w')
  have HVF := Lib.hid (vc_bd f)
  have HVT := Lib.hid (vc_bd t)
  have HOM := Lib.hid (@om_iff a b)
  have HBB : Hid (hvB f t a b = (vwB f t && !(f == t) && omB a b)) := Lib.hid rfl
  have HV : Hid (hvV f t a b = _) := Lib.hid (hvV.eq_1 f t a b)
  obtain ⟨vw, hvw⟩ : ∃ z, vwB f t = z := ⟨_, rfl⟩
  obtain ⟨om, hom⟩ : ∃ z, omB a b = z := ⟨_, rfl⟩
  obtain ⟨B, hB⟩ : ∃ z, hvB f t a b = z := ⟨_, rfl⟩
  obtain ⟨V, hV⟩ : ∃ z, hvV f t a b = z := ⟨_, rfl⟩
  obtain ⟨fx, hfx⟩ : ∃ z, vcX f = z := ⟨_, rfl⟩
  obtain ⟨fy, hfy⟩ : ∃ z, vcY f = z := ⟨_, rfl⟩
  obtain ⟨tx, htx⟩ : ∃ z, vcX t = z := ⟨_, rfl⟩
  obtain ⟨ty, hty⟩ : ∃ z, vcY t = z := ⟨_, rfl⟩
  rw [hvw] at H1 HBB
  rw [hom] at H2 HBB HOM
  rw [hB] at HBB HV ⊢
  rw [hV] at HV ⊢
  rw [htx, hty] at H3 HVT
  rw [hfx, hfy] at H4 HVF
  rw [hfx, hfy, htx, hty] at HV
  have HA := Lib.hid (fun W' => cells3 w #[.int .i64 f, .int .i64 t] #[.int .i64 a, .int .i64 b] #[.int .i64 0, .int .i64 0, .int .i64 0, .int .i64 0, .int .i64 0, .int .i64 0] 23 25 39 (W := W'))
  have HB0 := Lib.hid (Below.refl (((w.alloc (.cells #[.int .i64 f, .int .i64 t] 23)).alloc (.cells #[.int .i64 a, .int .i64 b] 25)).alloc (.cells #[.int .i64 0, .int .i64 0, .int .i64 0, .int .i64 0, .int .i64 0, .int .i64 0] 39)).heap.size (((w.alloc (.cells #[.int .i64 f, .int .i64 t] 23)).alloc (.cells #[.int .i64 a, .int .i64 b] 25)).alloc (.cells #[.int .i64 0, .int .i64 0, .int .i64 0, .int .i64 0, .int .i64 0, .int .i64 0] 39)))
  obtain ⟨Z, hZ⟩ : ∃ Z, (((w.alloc (.cells #[.int .i64 f, .int .i64 t] 23)).alloc (.cells #[.int .i64 a, .int .i64 b] 25)).alloc (.cells #[.int .i64 0, .int .i64 0, .int .i64 0, .int .i64 0, .int .i64 0, .int .i64 0] 39)) = Z := ⟨_, rfl⟩
  rw [hZ] at HA HB0
  have HZ := Lib.hid hZ
  clear hZ hvw hom hB hV hfx hfy htx hty
  have HRD : Hid (∀ W', Below Z.heap.size Z W' → (W'.cell? ⟨w.heap.size, 0, none⟩ = some (.int .i64 f) ∧ W'.cell? ⟨w.heap.size, 1, none⟩ = some (.int .i64 t)) ∧ (W'.cell? ⟨w.heap.size + 1, 0, none⟩ = some (.int .i64 a) ∧ W'.cell? ⟨w.heap.size + 1, 1, none⟩ = some (.int .i64 b)) ∧ (W'.cell? ⟨w.heap.size + 1 + 1, 0, none⟩ = some (.int .i64 0) ∧ W'.cell? ⟨w.heap.size + 1 + 1, 1, none⟩ = some (.int .i64 0) ∧ W'.cell? ⟨w.heap.size + 1 + 1, 2, none⟩ = some (.int .i64 0) ∧ W'.cell? ⟨w.heap.size + 1 + 1, 3, none⟩ = some (.int .i64 0) ∧ W'.cell? ⟨w.heap.size + 1 + 1, 4, none⟩ = some (.int .i64 0) ∧ W'.cell? ⟨w.heap.size + 1 + 1, 5, none⟩ = some (.int .i64 0)) ∧ (∀ o, W'.frozen? ⟨w.heap.size + 1 + 1, o, none⟩ = false)) := Lib.hid (fun W' h => by
    obtain ⟨x1, x2, x3, _⟩ := HA.out W' h
    exact ⟨⟨cellH x1 0, cellH x1 1⟩, ⟨cellH x2 0, cellH x2 1⟩, ⟨cellH x3 0, cellH x3 1, cellH x3 2, cellH x3 3, cellH x3 4, cellH x3 5⟩, freeH x3⟩)
  go_enter Try.func17, Try.ntmps17
  go_wp2_with fail
  rw [HZ.out]
  refine (H1.out Z).mono ?_
  rintro e w1 ⟨rfl, hb⟩
  have HB1 := Lib.hid hb
  obtain ⟨⟨q0, q1⟩, ⟨p0, p1⟩, ⟨r0, r1, r2, r3, r4, r5⟩, rf⟩ := HRD.out w1 hb
  clear hb
  cases vw
  · have HN : Hid (B = false) := Lib.hid (by rw [HBB.out]; rfl)
    go_wp2_with fail
    obtain ⟨_, _, z0, _, zb⟩ := HA.out w1 HB1.out
    obtain ⟨z1, z2⟩ := set6 z0 zb (by omega) (.int .i64 0) (.int .i64 0) (.int .i64 0) (.int .i64 0) (.int .i64 0) (.int .i64 0)
    refine bodyPost_ret (res_ct Try.results17 _ _ (w.heap.size + 1 + 1) 39 #[.int .i64 0, .int .i64 0, .int .i64 0, .int .i64 0, .int .i64 0, .int .i64 0] (0, 0) _ rfl z1 Try.underlying39 rfl info_h26) rfl ?_
    exact ⟨by rw [HV.out, HN.out]; rfl, z2⟩
  by_cases hft : f = t
  · have HN : Hid (B = false) := Lib.hid (by rw [HBB.out, hft]; simp)
    have gft : (f == t) = true := by simpa using hft
    clear hft
    go_wp2_with fail
    obtain ⟨_, _, z0, _, zb⟩ := HA.out w1 HB1.out
    obtain ⟨z1, z2⟩ := set6 z0 zb (by omega) (.int .i64 0) (.int .i64 0) (.int .i64 0) (.int .i64 0) (.int .i64 0) (.int .i64 0)
    refine bodyPost_ret (res_ct Try.results17 _ _ (w.heap.size + 1 + 1) 39 #[.int .i64 0, .int .i64 0, .int .i64 0, .int .i64 0, .int .i64 0, .int .i64 0] (0, 0) _ rfl z1 Try.underlying39 rfl info_h26) rfl ?_
    exact ⟨by rw [HV.out, HN.out]; rfl, z2⟩
  have gft : (f == t) = false := by simpa using hft
  have HBO : Hid (B = om) := Lib.hid (by rw [HBB.out, gft]; simp)
  clear hft
  go_wp2_with fail
  refine (H2.out w1).mono ?_
  rintro e w2 ⟨rfl, hb⟩
  have HB2 := Lib.hid (HB1.out.trans (hb.mono HB1.out.size))
  clear hb q0 q1 p0 p1 r0 r1 r2 r3 r4 r5 rf
  obtain ⟨⟨q0, q1⟩, ⟨p0, p1⟩, ⟨r0, r1, r2, r3, r4, r5⟩, rf⟩ := HRD.out w2 HB2.out
  cases om
  · have HN : Hid (B = false) := Lib.hid HBO.out
    go_wp2_with fail
    obtain ⟨_, _, z0, _, zb⟩ := HA.out w2 HB2.out
    obtain ⟨z1, z2⟩ := set6 z0 zb (by omega) (.int .i64 0) (.int .i64 0) (.int .i64 0) (.int .i64 0) (.int .i64 0) (.int .i64 0)
    refine bodyPost_ret (res_ct Try.results17 _ _ (w.heap.size + 1 + 1) 39 #[.int .i64 0, .int .i64 0, .int .i64 0, .int .i64 0, .int .i64 0, .int .i64 0] (0, 0) _ rfl z1 Try.underlying39 rfl info_h26) rfl ?_
    exact ⟨by rw [HV.out, HN.out]; rfl, z2⟩
  have HN : Hid (B = true) := Lib.hid HBO.out
  obtain ⟨om1, om2⟩ := HOM.out.1 rfl
  have HL1 := Lib.hid (fun w' => leftOf_any fx fy a b w' HVF.out.1 HVF.out.2 om1 om2)
  have HL2 := Lib.hid (fun w' => leftOf_any (-tx) (-ty) a b w' (by have := HVT.out; omega) (by have := HVT.out; omega) om1 om2)
  have hvt := HVT.out
  have e1 : IntKind.i64.wrap (-tx) = -tx := IntWalk.i64_in _ (by omega)
  have e2 : IntKind.i64.wrap (-ty) = -ty := IntWalk.i64_in _ (by omega)
  clear om1 om2 hvt
  go_wp2_with fail
  refine (H3.out w2).mono ?_
  rintro e w3 ⟨rfl, hb⟩
  have hY := cells1 w3 #[.int .i64 tx, .int .i64 ty] 25 (Below.refl _ _)
  have HBY := Lib.hid (HB2.out.trans ((hb.trans (hY.2.2.mono hb.size)).mono HB2.out.size))
  have HQY := Lib.hid hY.1
  obtain ⟨y, hy⟩ : ∃ y, w3.heap.size = y := ⟨_, rfl⟩
  rw [hy] at HQY
  obtain ⟨Y, hYY⟩ : ∃ Y, w3.alloc (.cells #[.int .i64 tx, .int .i64 ty] 25) = Y := ⟨_, rfl⟩
  rw [hYY] at HBY HQY
  have HYY := Lib.hid hYY
  have HLY : Hid (y < Y.heap.size) := Lib.hid (Array.getElem?_eq_some_iff.1 HQY.out).1
  have HRY : Hid (∀ W', Below Y.heap.size Y W' → (W'.cell? ⟨w.heap.size, 0, none⟩ = some (.int .i64 f) ∧ W'.cell? ⟨w.heap.size + 1, 0, none⟩ = some (.int .i64 a) ∧ W'.cell? ⟨w.heap.size + 1, 1, none⟩ = some (.int .i64 b) ∧ W'.cell? ⟨y, 0, none⟩ = some (.int .i64 tx) ∧ W'.cell? ⟨y, 1, none⟩ = some (.int .i64 ty))) := Lib.hid (fun W' h => by
    obtain ⟨⟨x1, _⟩, ⟨x2, x3⟩, _⟩ := HRD.out W' (HBY.out.trans (h.mono HBY.out.size))
    have h2 := (h.block _ HLY.out).trans HQY.out
    exact ⟨x1, x2, x3, cellH h2 0, cellH h2 1⟩)
  have C4 := Lib.hid (upC (Z := Y) H4.out)
  have C5 := Lib.hid (upC (Z := Y) HL1.out)
  have C6 := Lib.hid (upC (Z := Y) HL2.out)
  clear hb hY hYY q0 q1 p0 p1 r0 r1 r2 r3 r4 r5 rf gft
  go_wp2_with fail
  rw [HYY.out]
  refine wp_region_turn 15 (fun _ w' => Below Y.heap.size Y w') (by kernel_rfl) (by kernel_rfl) ((Below.refl _ Y).drew) ?_
  simp only [List.take_succ_cons, List.take_zero, List.drop_succ_cons, List.drop_zero]
  iterate 15
    (first
      | (apply turnC_step (by rfl); (intro w' hw'; obtain ⟨q0, q1, q2, q3, q4⟩ := HRY.out w' hw'; go_simp; first | with_reducible exact ⟨hw', congrArg (Value.int .i64) e1⟩ | with_reducible exact ⟨hw', congrArg (Value.int .i64) e2⟩ | with_reducible exact ⟨hw', rfl⟩ | with_reducible exact rfl))
      | (apply turnC_step (by rfl); (intro w' hw'; go_simp; first | with_reducible exact C4.out w' hw' | with_reducible exact C5.out w' hw' | with_reducible exact C6.out w' hw')))
    simp only [Act.put, List.setIfInBounds_toArray, List.set_cons_succ, List.set_cons_zero]
  intro listed w5 _ hw5
  have HB5 := Lib.hid (HBY.out.trans (hw5.mono HBY.out.size))
  obtain ⟨⟨q0, q1⟩, ⟨p0, p1⟩, ⟨r0, r1, r2, r3, r4, r5⟩, rf⟩ := HRD.out w5 HB5.out
  clear hw5
  go_wp2_with fail
  obtain ⟨_, _, z0, _, zb⟩ := HA.out w5 HB5.out
  obtain ⟨z1, z2⟩ := set6 z0 zb (by omega) (.int .i64 fy) (.int .i64 (-fx)) (.int .i64 (fy * a - fx * b)) (.int .i64 (-ty)) (.int .i64 tx) (.int .i64 (-ty * a - -tx * b))
  refine bodyPost_ret (res_ct Try.results17 _ _ (w.heap.size + 1 + 1) 39 #[.int .i64 fy, .int .i64 (-fx), .int .i64 (fy * a - fx * b), .int .i64 (-ty), .int .i64 tx, .int .i64 (-ty * a - -tx * b)] (0, 0) _ rfl z1 Try.underlying39 rfl info_h26) rfl ?_
  exact ⟨by rw [HV.out, HN.out]; rfl, z2⟩
end Go.Proofs.Ytpaihnjgpookjaa
/- Package circle: Meet. -/
set_option linter.unusedVariables false
set_option linter.unusedSimpArgs false
namespace Go.Proofs.Ytpaihnjgpookjaa
open Go Go.RowKit

/-- How much of a wedge is left behind the beginning of another one. -/
def mtL (pf pt qf : Int) : Int := opI pf pt - (qf - pf) % 3600
def mtN : Value := .tuple #[.agg #[.int .i64 0, .int .i64 0], .bool false]
def mtK (pf pt qf qt : Int) : Value := if mtL pf pt qf < 0 then mtN else .tuple #[.agg #[.int .i64 qf, .int .i64 ((qf + min (mtL pf pt qf) (opI qf qt)) % 3600)], .bool true]
/-- What two wedges have in common. -/
def mtV (af at' bf bt : Int) : Value := if vwB af at' = true then (if vwB bf bt = true then (if opI af at' < (bf - af) % 3600 then mtK bf bt af at' else mtK af at' bf bt) else mtN) else mtN
theorem below_al {A B : World} (h : Below A.heap.size A B) (o : Obj) : Below A.heap.size A (B.alloc o) := h.alloc h.size o
theorem row_one {w : World} {t : TypeId} {A : Nat} (o : Int) (h : w.heap[A]? = some (.cells #[.int .i64 o] t (0, 0))) : INRow w (.slice (some ⟨A, 0, none⟩) 1 1) [o] := by
  refine .inr ⟨A, 0, 1, rfl, (Array.getElem?_eq_some_iff.1 h).1, fun i hi => ?_⟩
  obtain rfl : i = 0 := by simpa using hi
  exact cellH h 0
/-- The worlds and frames in the head of Meet's last region. -/
def MtInv (w5 : World) (p3 : Nat) (qf qt o2 lf mn T : Int) (u0 u1 u2 u4 u5 u7 u8 u9 u10 u11 u12 u13 u14 u15 u16 u17 u18 u19 u20 u21 u22 u23 u24 u25 u26 u27 u28 u29 u30 u31 u32 u33 u34 u35 u36 u37 u38 : Value) (listed : Array Bool) (a : Act) (w' : World) : Prop :=
  ∃ (l0 l1 l2 l3 l4 l5 l6 l7 l8 l9 l10 l11 : Bool) (A : Nat), listed = #[l0, l1, l2, l3, l4, l5, l6, l7, l8, l9, l10, l11, false, false] ∧ a = { tmps := #[u0, u1, u2, .pointer (some ⟨p3, 0, none⟩), u4, u5, .int .i64 lf, u7, u8, u9, u10, u11, u12, u13, u14, u15, u16, u17, u18, u19, u20, u21, u22, u23, u24, u25, u26, u27, u28, u29, u30, u31, u32, u33, u34, u35, u36, u37, u38, onlyIf l0 (.pointer (some ⟨p3, 0, none⟩)), onlyIf l1 (.int .i64 qf), onlyIf l2 (.pointer (some ⟨p3, 0, none⟩)), onlyIf l3 (.int .i64 qf), onlyIf l4 (.int .i64 lf), onlyIf l5 (.agg #[.int .i64 qf, .int .i64 qt]), onlyIf l6 (.int .i64 o2), onlyIf l7 (.slice (some ⟨A, 0, none⟩) 1 1), onlyIf l8 (.int .i64 mn), onlyIf l9 (.int .i64 (qf + mn)), onlyIf l10 (.int .i64 T), onlyIf l11 (.agg #[.int .i64 qf, .int .i64 T])], defers := [] } ∧ Below w5.heap.size w5 w' ∧ (l7 = true → w'.heap[A]? = some (.cells #[.int .i64 o2] 3 (0, 0)))
set_option maxRecDepth 100000 in
set_option maxHeartbeats 4000000 in
theorem Meet_any (af at' bf bt : Int) (w : World) : Calls Try.prog 8 #[.agg #[.int .i64 af, .int .i64 at'], .agg #[.int .i64 bf, .int .i64 bt]] w fun e w' => e = .returned (mtV af at' bf bt) ∧ Below w.heap.size w w' := by
  have H1 := Lib.hid (fun w' => validWedge_any af at' w')
  have H2 := Lib.hid (fun w' => validWedge_any bf bt w')
  have H3 := Lib.hid (fun w' => Opening_any af at' w')
  have H4 := Lib.hid (fun w' => Opening_any bf bt w')
  have HVA := Lib.hid (vw_ok (f := af) (t := at'))
  have HVB := Lib.hid (vw_ok (f := bf) (t := bt))
  have HV : Hid (mtV af at' bf bt = _) := Lib.hid (mtV.eq_1 af at' bf bt)
  obtain ⟨va, hva⟩ : ∃ z, vwB af at' = z := ⟨_, rfl⟩
  obtain ⟨vb, hvb⟩ : ∃ z, vwB bf bt = z := ⟨_, rfl⟩
  obtain ⟨V, hV⟩ : ∃ z, mtV af at' bf bt = z := ⟨_, rfl⟩
  rw [hva] at H1 HV HVA
  rw [hvb] at H2 HV HVB
  rw [hV] at HV ⊢
  clear hva hvb hV
  have HA := Lib.hid (fun W' => cells3 w #[.int .i64 af, .int .i64 at'] #[.int .i64 bf, .int .i64 bt] #[.int .i64 0, .int .i64 0] 23 23 23 (W := W'))
  have HB0 := Lib.hid (Below.refl (((w.alloc (.cells #[.int .i64 af, .int .i64 at'] 23)).alloc (.cells #[.int .i64 bf, .int .i64 bt] 23)).alloc (.cells #[.int .i64 0, .int .i64 0] 23)).heap.size (((w.alloc (.cells #[.int .i64 af, .int .i64 at'] 23)).alloc (.cells #[.int .i64 bf, .int .i64 bt] 23)).alloc (.cells #[.int .i64 0, .int .i64 0] 23)))
  obtain ⟨Z, hZ⟩ : ∃ Z, (((w.alloc (.cells #[.int .i64 af, .int .i64 at'] 23)).alloc (.cells #[.int .i64 bf, .int .i64 bt] 23)).alloc (.cells #[.int .i64 0, .int .i64 0] 23)) = Z := ⟨_, rfl⟩
  rw [hZ] at HA HB0
  have HZ := Lib.hid hZ
  clear hZ
  have HRD : Hid (∀ W', Below Z.heap.size Z W' → (W'.cell? ⟨w.heap.size, 0, none⟩ = some (.int .i64 af) ∧ W'.cell? ⟨w.heap.size, 1, none⟩ = some (.int .i64 at')) ∧ (W'.cell? ⟨w.heap.size + 1, 0, none⟩ = some (.int .i64 bf) ∧ W'.cell? ⟨w.heap.size + 1, 1, none⟩ = some (.int .i64 bt)) ∧ (W'.cell? ⟨w.heap.size + 1 + 1, 0, none⟩ = some (.int .i64 0) ∧ W'.cell? ⟨w.heap.size + 1 + 1, 1, none⟩ = some (.int .i64 0)) ∧ (∀ o, W'.frozen? ⟨w.heap.size + 1 + 1, o, none⟩ = false) ∧ (∀ o, W'.frozen? ⟨w.heap.size + 1, o, none⟩ = false) ∧ (∀ o, W'.frozen? ⟨w.heap.size, o, none⟩ = false)) := Lib.hid (fun W' h => by
    obtain ⟨x1, x2, x3, _⟩ := HA.out W' h
    exact ⟨⟨cellH x1 0, cellH x1 1⟩, ⟨cellH x2 0, cellH x2 1⟩, ⟨cellH x3 0, cellH x3 1⟩, freeH x3, freeH x2, freeH x1⟩)
  go_enter Try.func8, Try.ntmps8
  go_wp2_with fail
  rw [HZ.out]
  refine (H1.out Z).mono ?_
  rintro e w1 ⟨rfl, hb⟩
  have HB1 := Lib.hid hb
  obtain ⟨⟨q0, q1⟩, ⟨p0, p1⟩, ⟨r0, r1⟩, rf, rg, rh⟩ := HRD.out w1 hb
  clear hb
  cases va
  · go_wp2_with fail
    obtain ⟨_, _, z0, _, zb⟩ := HA.out w1 HB1.out
    obtain ⟨z1, z2⟩ := set2 z0 zb (by omega) (.int .i64 0) (.int .i64 0)
    refine bodyPost_ret (res_ct Try.results8 _ _ (w.heap.size + 1 + 1) 23 #[.int .i64 0, .int .i64 0] (0, 0) _ rfl z1 Try.underlying23 rfl info_we2) rfl ?_
    exact ⟨by rw [HV.out]; rfl, z2⟩
  go_wp2_with fail
  refine (H2.out w1).mono ?_
  rintro e w2 ⟨rfl, hb⟩
  have HB2 := Lib.hid (HB1.out.trans (hb.mono HB1.out.size))
  clear hb q0 q1 p0 p1 r0 r1 rf rg rh
  obtain ⟨⟨q0, q1⟩, ⟨p0, p1⟩, ⟨r0, r1⟩, rf, rg, rh⟩ := HRD.out w2 HB2.out
  cases vb
  · go_wp2_with fail
    obtain ⟨_, _, z0, _, zb⟩ := HA.out w2 HB2.out
    obtain ⟨z1, z2⟩ := set2 z0 zb (by omega) (.int .i64 0) (.int .i64 0)
    refine bodyPost_ret (res_ct Try.results8 _ _ (w.heap.size + 1 + 1) 23 #[.int .i64 0, .int .i64 0] (0, 0) _ rfl z1 Try.underlying23 rfl info_we2) rfl ?_
    exact ⟨by rw [HV.out]; rfl, z2⟩
  obtain ⟨a1, a2, a3, a4, a5⟩ := HVA.out (by trivial)
  obtain ⟨b1, b2, b3, b4, b5⟩ := HVB.out (by trivial)
  have HLIM := Lib.hid (show ((0 ≤ af ∧ af ≤ 3599) ∧ (0 ≤ at' ∧ at' ≤ 3599) ∧ 0 ≤ opI af at' ∧ opI af at' ≤ 900) ∧ (0 ≤ bf ∧ bf ≤ 3599) ∧ (0 ≤ bt ∧ bt ≤ 3599) ∧ 0 ≤ opI bf bt ∧ opI bf bt ≤ 900 from ⟨⟨a1, a2, a4, a5⟩, b1, b2, b4, b5⟩)
  have e1 : IntKind.i64.wrap (bf - af) = bf - af := IntWalk.i64_in _ (by omega)
  obtain ⟨oa, hoa⟩ : ∃ z, opI af at' = z := ⟨_, rfl⟩
  obtain ⟨m, hm⟩ : ∃ z, (bf - af) % 3600 = z := ⟨_, rfl⟩
  have HOA := Lib.hid hoa
  have HM := Lib.hid hm
  have C3 := Lib.hid (upC (Z := w2) H3.out)
  have CT := Lib.hid (upQ (Z := w2) (fun w' => qturn_any (bf - af) w'))
  rw [hoa] at C3
  rw [hm] at CT
  have HK2 : Hid (∀ W', Below w2.heap.size w2 W' → (W'.cell? ⟨w.heap.size, 0, none⟩ = some (.int .i64 af) ∧ W'.cell? ⟨w.heap.size, 1, none⟩ = some (.int .i64 at')) ∧ (W'.cell? ⟨w.heap.size + 1, 0, none⟩ = some (.int .i64 bf) ∧ W'.cell? ⟨w.heap.size + 1, 1, none⟩ = some (.int .i64 bt))) := Lib.hid (fun W' h => by
    have h1 := HRD.out W' (HB2.out.trans (h.mono HB2.out.size))
    exact ⟨h1.1, h1.2.1⟩)
  clear a1 a2 a3 a4 a5 b1 b2 b3 b4 b5 hoa hm
  go_wp2_with fail
  refine wp_region_turn 8 (fun _ w' => Below w2.heap.size w2 w') (by kernel_rfl) (by kernel_rfl) ((Below.refl _ w2).drew) ?_
  simp only [List.take_succ_cons, List.take_zero, List.drop_succ_cons, List.drop_zero]
  iterate 8
    (first
      | (apply turnC_step (by rfl); (intro w' hw'; obtain ⟨⟨q0, q1⟩, q2, q3⟩ := HK2.out w' hw'; go_simp; first | with_reducible exact ⟨hw', congrArg (Value.int .i64) e1⟩ | with_reducible exact ⟨hw', rfl⟩ | with_reducible exact rfl))
      | (apply turnC_step (by rfl); (intro w' hw'; go_simp; first | with_reducible exact C3.out w' hw' | with_reducible exact CT.out w' hw' | (rw [e1]; with_reducible exact CT.out w' hw'))))
    simp only [Act.put, List.setIfInBounds_toArray, List.set_cons_succ, List.set_cons_zero]
  intro listed w3 _ hw3
  have HB3 := Lib.hid (HB2.out.trans (hw3.mono HB2.out.size))
  clear hw3 q0 q1 p0 p1 r0 r1 rf rg rh e1
  obtain ⟨⟨q0, q1⟩, ⟨p0, p1⟩, ⟨r0, r1⟩, rf, rg, rh⟩ := HRD.out w3 HB3.out
  by_cases hsw : oa < m
  · have HVV : Hid (V = mtK bf bt af at') := Lib.hid (by rw [HV.out, HOA.out, HM.out]; simp only [if_true, if_pos hsw])
    obtain ⟨x1, x2, x3, x4, x5⟩ := HA.out w3 HB3.out
    have HX : Hid (∀ v0 v1 u0 u1 : Value, ((((w3.setCell ⟨w.heap.size, 0, none⟩ v0).setCell ⟨w.heap.size, 1, none⟩ v1).setCell ⟨w.heap.size + 1, 0, none⟩ u0).setCell ⟨w.heap.size + 1, 1, none⟩ u1).heap[w.heap.size]? = some (.cells #[v0, v1] 23 (0, 0)) ∧ ((((w3.setCell ⟨w.heap.size, 0, none⟩ v0).setCell ⟨w.heap.size, 1, none⟩ v1).setCell ⟨w.heap.size + 1, 0, none⟩ u0).setCell ⟨w.heap.size + 1, 1, none⟩ u1).heap[w.heap.size + 1]? = some (.cells #[u0, u1] 23 (0, 0)) ∧ ((((w3.setCell ⟨w.heap.size, 0, none⟩ v0).setCell ⟨w.heap.size, 1, none⟩ v1).setCell ⟨w.heap.size + 1, 0, none⟩ u0).setCell ⟨w.heap.size + 1, 1, none⟩ u1).heap[w.heap.size + 1 + 1]? = some (.cells #[.int .i64 0, .int .i64 0] 23 (0, 0)) ∧ Below w.heap.size w ((((w3.setCell ⟨w.heap.size, 0, none⟩ v0).setCell ⟨w.heap.size, 1, none⟩ v1).setCell ⟨w.heap.size + 1, 0, none⟩ u0).setCell ⟨w.heap.size + 1, 1, none⟩ u1)) := Lib.hid (fun v0 v1 u0 u1 => by
      refine ⟨?_, ?_, ?_, ?_⟩
      · exact (heap_other _ _ _ _ _ (by omega)).trans ((heap_other _ _ _ _ _ (by omega)).trans (heap_same (heap_same x1 0 _) 1 _))
      · exact heap_same (heap_same ((heap_other _ _ _ _ _ (by omega)).trans ((heap_other _ _ _ _ _ (by omega)).trans x2)) 0 _) 1 _
      · exact (heap_other _ _ _ _ _ (by omega)).trans ((heap_other _ _ _ _ _ (by omega)).trans ((heap_other _ _ _ _ _ (by omega)).trans ((heap_other _ _ _ _ _ (by omega)).trans x3)))
      · exact (((x5.setCell (p := ⟨w.heap.size, 0, none⟩) (by simp) _).setCell (p := ⟨w.heap.size, 1, none⟩) (by simp) _).setCell (p := ⟨w.heap.size + 1, 0, none⟩) (by simp) _).setCell (p := ⟨w.heap.size + 1, 1, none⟩) (by simp) _)
    clear x1 x2 x3 x4 x5
    go_wp2_with fail
    have hx := HX.out (.int .i64 bf) (.int .i64 bt) (.int .i64 af) (.int .i64 at')
    obtain ⟨w4, hw4⟩ : ∃ X, ((((w3.setCell ⟨w.heap.size, 0, none⟩ (.int .i64 bf)).setCell ⟨w.heap.size, 1, none⟩ (.int .i64 bt)).setCell ⟨w.heap.size + 1, 0, none⟩ (.int .i64 af)).setCell ⟨w.heap.size + 1, 1, none⟩ (.int .i64 at')) = X := ⟨_, rfl⟩
    rw [hw4] at hx ⊢
    obtain ⟨x1, x2, x3, x5⟩ := hx
    clear hw4 q0 q1 p0 p1 r0 r1 rf rg rh C3 CT HK2 HX
    have HKD : Hid (∀ W', Below w4.heap.size w4 W' → W'.heap[w.heap.size]? = some (.cells #[.int .i64 bf, .int .i64 bt] 23 (0, 0)) ∧ W'.heap[w.heap.size + 1]? = some (.cells #[.int .i64 af, .int .i64 at'] 23 (0, 0)) ∧ W'.heap[w.heap.size + 1 + 1]? = some (.cells #[.int .i64 0, .int .i64 0] 23 (0, 0)) ∧ Below w.heap.size w W') := Lib.hid (fun W' h => ⟨(h.block _ (Array.getElem?_eq_some_iff.1 x1).1).trans x1, (h.block _ (Array.getElem?_eq_some_iff.1 x2).1).trans x2, (h.block _ (Array.getElem?_eq_some_iff.1 x3).1).trans x3, x5.trans (h.mono x5.size)⟩)
    have HK4 : Hid (∀ W', Below w4.heap.size w4 W' → (W'.cell? ⟨w.heap.size, 0, none⟩ = some (.int .i64 bf) ∧ W'.cell? ⟨w.heap.size, 1, none⟩ = some (.int .i64 bt)) ∧ (W'.cell? ⟨w.heap.size + 1, 0, none⟩ = some (.int .i64 af) ∧ W'.cell? ⟨w.heap.size + 1, 1, none⟩ = some (.int .i64 at'))) := Lib.hid (fun W' h => by
      obtain ⟨y1, y2, _, _⟩ := HKD.out W' h
      exact ⟨⟨cellH y1 0, cellH y1 1⟩, cellH y2 0, cellH y2 1⟩)
    have hlim1 := HLIM.out.2
    have hlim2 := HLIM.out.1
    have e1 : IntKind.i64.wrap (af - bf) = af - bf := IntWalk.i64_in _ (by omega)
    have HO1 := Lib.hid H4.out
    have HO2 := Lib.hid H3.out
    have HLV : Hid (mtL bf bt af = opI bf bt - (af - bf) % 3600) := Lib.hid rfl
    obtain ⟨o1, ho1⟩ : ∃ z, opI bf bt = z := ⟨_, rfl⟩
    obtain ⟨o2, ho2⟩ : ∃ z, opI af at' = z := ⟨_, rfl⟩
    obtain ⟨m2, hm2⟩ : ∃ z, (af - bf) % 3600 = z := ⟨_, rfl⟩
    obtain ⟨lf, hlf⟩ : ∃ z, o1 - m2 = z := ⟨_, rfl⟩
    rw [ho1] at HO1 HLV hlim1
    rw [ho2] at HO2 hlim2
    rw [hm2, hlf] at HLV
    have hm3 : 0 ≤ m2 ∧ m2 < 3600 := by omega
    have e2 : IntKind.i64.wrap lf = lf := IntWalk.i64_in _ (by omega)
    have HL3 := Lib.hid (show -3600 < lf ∧ lf ≤ 900 by omega)
    have HOP2 := Lib.hid ho2
    have C3 := Lib.hid (upC (Z := w4) HO1.out)
    have CT := Lib.hid (upQ (Z := w4) (fun w' => qturn_any (af - bf) w'))
    rw [hm2] at CT
    have HQF := Lib.hid (show (0 ≤ af ∧ af ≤ 3599) ∧ 0 ≤ o2 ∧ o2 ≤ 900 from ⟨hlim2.1, hlim2.2.2⟩)
    clear x1 x2 x3 x5 hlim1 hlim2 ho1 ho2 hm2 hm3
    go_wp2_with fail
    refine wp_region_turn 9 (fun _ w' => Below w4.heap.size w4 w') (by kernel_rfl) (by kernel_rfl) ((Below.refl _ w4).drew) ?_
    simp only [List.take_succ_cons, List.take_zero, List.drop_succ_cons, List.drop_zero]
    iterate 9
      (first
        | (apply turnC_step (by rfl); (intro w' hw'; obtain ⟨⟨q0, q1⟩, q2, q3⟩ := HK4.out w' hw'; go_simp; first | with_reducible exact ⟨hw', congrArg (Value.int .i64) e1⟩ | (rw [hlf]; with_reducible exact ⟨hw', congrArg (Value.int .i64) e2⟩) | (rw [hlf]; with_reducible exact ⟨hw', rfl⟩) | with_reducible exact ⟨hw', rfl⟩ | with_reducible exact rfl))
        | (apply turnC_step (by rfl); (intro w' hw'; go_simp; first | with_reducible exact C3.out w' hw' | with_reducible exact CT.out w' hw' | (rw [e1]; with_reducible exact CT.out w' hw'))))
      simp only [Act.put, List.setIfInBounds_toArray, List.set_cons_succ, List.set_cons_zero]
    intro listed2 w5 _ hw5
    have HB5 := Lib.hid hw5
    clear hw5 e1 e2 hlf C3 CT
    obtain ⟨⟨q0, q1⟩, p0, p1⟩ := HK4.out w5 HB5.out
    have hy3 := (HKD.out w5 HB5.out).2.2.1
    have r0 := cellH hy3 0
    have r1 := cellH hy3 1
    have rf := freeH hy3
    simp only [List.getElem?_toArray, List.getElem?_cons_zero, List.getElem?_cons_succ] at r0 r1
    clear hy3
    by_cases hneg : lf < 0
    · have HVW : Hid (V = mtN) := Lib.hid (by rw [HVV.out]; unfold mtK; rw [HLV.out, if_pos hneg])
      go_wp2_with fail
      obtain ⟨_, _, z0, zb⟩ := HKD.out w5 HB5.out
      obtain ⟨z1, z2⟩ := set2 z0 zb (by omega) (.int .i64 0) (.int .i64 0)
      refine bodyPost_ret (res_ct Try.results8 _ _ (w.heap.size + 1 + 1) 23 #[.int .i64 0, .int .i64 0] (0, 0) _ rfl z1 Try.underlying23 rfl info_we2) rfl ?_
      exact ⟨by rw [HVW.out]; rfl, z2⟩
    · have HVW : Hid (V = .tuple #[.agg #[.int .i64 af, .int .i64 ((af + min lf o2) % 3600)], .bool true]) := Lib.hid (by rw [HVV.out]; unfold mtK; rw [HLV.out, if_neg hneg, HOP2.out])
      have hq := HQF.out
      have hl3 := HL3.out
      obtain ⟨mn, hmn⟩ : ∃ z, min lf o2 = z := ⟨_, rfl⟩
      have e3 : IntKind.i64.wrap (af + mn) = af + mn := IntWalk.i64_in _ (by omega)
      have HTU := Lib.hid (fun w' => qturn_any (af + mn) w')
      rw [hmn] at HVW
      obtain ⟨T, hT⟩ : ∃ z, (af + mn) % 3600 = z := ⟨_, rfl⟩
      rw [hT] at HTU HVW
      have HLE : Hid (∀ (w' : World) (A : Nat), w'.heap[A]? = some (.cells #[.int .i64 o2] 3 (0, 0)) → Calls Try.prog 32 #[.int .i64 lf, .slice (some ⟨A, 0, none⟩) 1 1] w' fun e w'' => e = .returned (.int .i64 mn) ∧ w'' = w') := Lib.hid (fun w' A hA => by
        have h := least_any lf _ [o2] w' (row_one o2 hA) (by simp)
        have he : minL lf [o2] = mn := hmn
        rwa [he] at h)
      have HKS : Hid (∀ W', Below w5.heap.size w5 W' → Below w5.heap.size w5 W' ∧ W'.cell? ⟨w.heap.size + 1, 0, none⟩ = some (.int .i64 af) ∧ W'.cell? ⟨w.heap.size + 1, 1, none⟩ = some (.int .i64 at')) := Lib.hid (fun W' h => ⟨h, (HK4.out W' (HB5.out.trans (h.mono HB5.out.size))).2⟩)
      clear hq hl3 hmn hT
      go_wp2_with fail
      refine wp_region_invtail 12 (by kernel_rfl) (by kernel_rfl) (by kernel_rfl) (by kernel_rfl) (of_decide_eq_true (by kernel_rfl)) (by kernel_rfl) (MtInv w5 (w.heap.size + 1) af at' o2 lf mn T _ _ _ _ _ _ _ _ _ _ _ _ _ _ _ _ _ _ _ _ _ _ _ _ _ _ _ _ _ _ _ _ _ _ _ _ _)
        ⟨false, false, false, false, false, false, false, false, false, false, false, false, 0, rfl, rfl, (Below.refl _ w5).drew, by simp⟩ ?hend ?hstep
      case hend =>
        rintro listed a w' ⟨l0, l1, l2, l3, l4, l5, l6, l7, l8, l9, l10, l11, A, rfl, rfl, hb, h7⟩ hall
        have hal : l0 = true ∧ l1 = true ∧ l2 = true ∧ l3 = true ∧ l4 = true ∧ l5 = true ∧ l6 = true ∧ l7 = true ∧ l8 = true ∧ l9 = true ∧ l10 = true ∧ l11 = true :=
          ⟨by simpa using hall 0 (by decide), by simpa using hall 1 (by decide), by simpa using hall 2 (by decide), by simpa using hall 3 (by decide), by simpa using hall 4 (by decide), by simpa using hall 5 (by decide), by simpa using hall 6 (by decide), by simpa using hall 7 (by decide), by simpa using hall 8 (by decide), by simpa using hall 9 (by decide), by simpa using hall 10 (by decide), by simpa using hall 11 (by decide)⟩
        obtain ⟨rfl, rfl, rfl, rfl, rfl, rfl, rfl, rfl, rfl, rfl, rfl, rfl⟩ := hal
        have HB9 := Lib.hid hb
        obtain ⟨_, _, z0, zb⟩ := HKD.out w' (HB5.out.trans (hb.mono HB5.out.size))
        have HZ0 := Lib.hid z0
        have HZB := Lib.hid zb
        have r0 := cellH z0 0
        have r1 := cellH z0 1
        have rf := freeH z0
        simp only [List.getElem?_toArray, List.getElem?_cons_zero, List.getElem?_cons_succ] at r0 r1
        clear hall h7 hb z0 zb e3
        simp only [onlyIf_true]
        simp only [List.drop_succ_cons, List.drop_zero]
        go_wp2_with fail
        obtain ⟨z1, z2⟩ := set2 HZ0.out HZB.out (by omega) (.int .i64 af) (.int .i64 T)
        refine bodyPost_ret (res_ct Try.results8 _ _ (w.heap.size + 1 + 1) 23 #[.int .i64 af, .int .i64 T] (0, 0) _ rfl z1 Try.underlying23 rfl info_we2) rfl ?_
        exact ⟨by rw [HVW.out]; rfl, z2⟩
      case hstep =>
        rintro listed a w' i ⟨l0, l1, l2, l3, l4, l5, l6, l7, l8, l9, l10, l11, A, rfl, rfl, hb, h7⟩ hi hin
        obtain ⟨hf, o', ho', hp⟩ := mem_ready.1 hi
        clear hi
        obtain ⟨_, q4, q5⟩ := HKS.out w' hb
        match i, hin with
        | 0, _ =>
          obtain rfl : l0 = false := by simpa using hf
          clear hp ho'
          unfold wpOp
          simp only [onlyIf_true]
          go_simp
          exact .inl ⟨true, l1, l2, l3, l4, l5, l6, l7, l8, l9, l10, l11, A, rfl, rfl, hb, h7⟩
        | 1, _ =>
          obtain rfl : l1 = false := by simpa using hf
          cases ho'
          obtain rfl : l0 = true := by simpa using hp ⟨0, .data⟩ (by simp) rfl
          clear hp
          unfold wpOp
          simp only [onlyIf_true]
          go_simp
          exact .inl ⟨true, true, l2, l3, l4, l5, l6, l7, l8, l9, l10, l11, A, rfl, rfl, hb, h7⟩
        | 2, _ =>
          obtain rfl : l2 = false := by simpa using hf
          clear hp ho'
          unfold wpOp
          simp only [onlyIf_true]
          go_simp
          exact .inl ⟨l0, l1, true, l3, l4, l5, l6, l7, l8, l9, l10, l11, A, rfl, rfl, hb, h7⟩
        | 3, _ =>
          obtain rfl : l3 = false := by simpa using hf
          cases ho'
          obtain rfl : l2 = true := by simpa using hp ⟨2, .data⟩ (by simp) rfl
          clear hp
          unfold wpOp
          simp only [onlyIf_true]
          go_simp
          exact .inl ⟨l0, l1, true, true, l4, l5, l6, l7, l8, l9, l10, l11, A, rfl, rfl, hb, h7⟩
        | 4, _ =>
          obtain rfl : l4 = false := by simpa using hf
          clear hp ho'
          unfold wpOp
          simp only [onlyIf_true]
          go_simp
          exact .inl ⟨l0, l1, l2, l3, true, l5, l6, l7, l8, l9, l10, l11, A, rfl, rfl, hb, h7⟩
        | 5, _ =>
          obtain rfl : l5 = false := by simpa using hf
          clear hp ho'
          unfold wpOp
          simp only [onlyIf_true]
          go_simp
          exact .inl ⟨l0, l1, l2, l3, l4, true, l6, l7, l8, l9, l10, l11, A, rfl, rfl, hb, h7⟩
        | 6, _ =>
          obtain rfl : l6 = false := by simpa using hf
          cases ho'
          obtain rfl : l5 = true := by simpa using hp ⟨5, .data⟩ (by simp) rfl
          clear hp
          unfold wpOp
          simp only [onlyIf_true]
          go_simp
          refine .inl ((HO2.out w').mono ?_)
          rintro e w9 ⟨rfl, hb9⟩
          exact ⟨l0, l1, l2, l3, l4, true, true, l7, l8, l9, l10, l11, A, rfl, rfl, hb.trans (hb9.mono hb.size), fun h => (hb9.block _ (Array.getElem?_eq_some_iff.1 (h7 h)).1).trans (h7 h)⟩
        | 7, _ =>
          obtain rfl : l7 = false := by simpa using hf
          cases ho'
          obtain rfl : l6 = true := by simpa using hp ⟨6, .data⟩ (by simp) rfl
          clear hp
          unfold wpOp
          simp only [onlyIf_true]
          go_simp
          exact .inl ⟨l0, l1, l2, l3, l4, l5, true, true, l8, l9, l10, l11, w'.heap.size, rfl, rfl, hb.alloc hb.size _, fun _ => heap_alloc_new _ _⟩
        | 8, _ =>
          obtain rfl : l8 = false := by simpa using hf
          cases ho'
          obtain rfl : l4 = true := by simpa using hp ⟨4, .data⟩ (by simp) rfl
          obtain rfl : l7 = true := by simpa using hp ⟨7, .data⟩ (by simp) rfl
          clear hp
          unfold wpOp
          simp only [onlyIf_true]
          go_simp
          refine .inl ((HLE.out w' A (h7 rfl)).mono ?_)
          rintro e w9 ⟨rfl, rfl⟩
          exact ⟨l0, l1, l2, l3, true, l5, l6, true, true, l9, l10, l11, A, rfl, rfl, hb, h7⟩
        | 9, _ =>
          obtain rfl : l9 = false := by simpa using hf
          cases ho'
          obtain rfl : l3 = true := by simpa using hp ⟨3, .data⟩ (by simp) rfl
          obtain rfl : l8 = true := by simpa using hp ⟨8, .data⟩ (by simp) rfl
          clear hp
          unfold wpOp
          simp only [onlyIf_true]
          go_simp
          exact .inl ⟨l0, l1, l2, true, l4, l5, l6, l7, true, true, l10, l11, A, rfl, rfl, hb, h7⟩
        | 10, _ =>
          obtain rfl : l10 = false := by simpa using hf
          cases ho'
          obtain rfl : l9 = true := by simpa using hp ⟨9, .data⟩ (by simp) rfl
          clear hp
          unfold wpOp
          simp only [onlyIf_true]
          go_simp
          refine .inl ((HTU.out w').mono ?_)
          rintro e w9 ⟨rfl, rfl⟩
          exact ⟨l0, l1, l2, l3, l4, l5, l6, l7, l8, true, true, l11, A, rfl, rfl, hb, h7⟩
        | 11, _ =>
          obtain rfl : l11 = false := by simpa using hf
          cases ho'
          obtain rfl : l1 = true := by simpa using hp ⟨1, .data⟩ (by simp) rfl
          obtain rfl : l10 = true := by simpa using hp ⟨10, .data⟩ (by simp) rfl
          clear hp
          unfold wpOp
          simp only [onlyIf_true]
          go_simp
          exact .inl ⟨l0, true, l2, l3, l4, l5, l6, l7, l8, l9, true, true, A, rfl, rfl, hb, h7⟩
  · have HVV : Hid (V = mtK af at' bf bt) := Lib.hid (by rw [HV.out, HOA.out, HM.out]; simp only [if_true, if_neg hsw])
    go_wp2_with fail
    obtain ⟨x1, x2, x3, _, x5⟩ := HA.out w3 HB3.out
    obtain ⟨w4, hw4⟩ : ∃ X, w3 = X := ⟨_, rfl⟩
    rw [hw4] at x1 x2 x3 x5 ⊢
    clear hw4 q0 q1 p0 p1 r0 r1 rf rg rh C3 CT HK2
    have HKD : Hid (∀ W', Below w4.heap.size w4 W' → W'.heap[w.heap.size]? = some (.cells #[.int .i64 af, .int .i64 at'] 23 (0, 0)) ∧ W'.heap[w.heap.size + 1]? = some (.cells #[.int .i64 bf, .int .i64 bt] 23 (0, 0)) ∧ W'.heap[w.heap.size + 1 + 1]? = some (.cells #[.int .i64 0, .int .i64 0] 23 (0, 0)) ∧ Below w.heap.size w W') := Lib.hid (fun W' h => ⟨(h.block _ (Array.getElem?_eq_some_iff.1 x1).1).trans x1, (h.block _ (Array.getElem?_eq_some_iff.1 x2).1).trans x2, (h.block _ (Array.getElem?_eq_some_iff.1 x3).1).trans x3, x5.trans (h.mono x5.size)⟩)
    have HK4 : Hid (∀ W', Below w4.heap.size w4 W' → (W'.cell? ⟨w.heap.size, 0, none⟩ = some (.int .i64 af) ∧ W'.cell? ⟨w.heap.size, 1, none⟩ = some (.int .i64 at')) ∧ (W'.cell? ⟨w.heap.size + 1, 0, none⟩ = some (.int .i64 bf) ∧ W'.cell? ⟨w.heap.size + 1, 1, none⟩ = some (.int .i64 bt))) := Lib.hid (fun W' h => by
      obtain ⟨y1, y2, _, _⟩ := HKD.out W' h
      exact ⟨⟨cellH y1 0, cellH y1 1⟩, cellH y2 0, cellH y2 1⟩)
    have hlim1 := HLIM.out.1
    have hlim2 := HLIM.out.2
    have e1 : IntKind.i64.wrap (bf - af) = bf - af := IntWalk.i64_in _ (by omega)
    have HO1 := Lib.hid H3.out
    have HO2 := Lib.hid H4.out
    have HLV : Hid (mtL af at' bf = opI af at' - (bf - af) % 3600) := Lib.hid rfl
    obtain ⟨o1, ho1⟩ : ∃ z, opI af at' = z := ⟨_, rfl⟩
    obtain ⟨o2, ho2⟩ : ∃ z, opI bf bt = z := ⟨_, rfl⟩
    obtain ⟨m2, hm2⟩ : ∃ z, (bf - af) % 3600 = z := ⟨_, rfl⟩
    obtain ⟨lf, hlf⟩ : ∃ z, o1 - m2 = z := ⟨_, rfl⟩
    rw [ho1] at HO1 HLV hlim1
    rw [ho2] at HO2 hlim2
    rw [hm2, hlf] at HLV
    have hm3 : 0 ≤ m2 ∧ m2 < 3600 := by omega
    have e2 : IntKind.i64.wrap lf = lf := IntWalk.i64_in _ (by omega)
    have HL3 := Lib.hid (show -3600 < lf ∧ lf ≤ 900 by omega)
    have HOP2 := Lib.hid ho2
    have C3 := Lib.hid (upC (Z := w4) HO1.out)
    have CT := Lib.hid (upQ (Z := w4) (fun w' => qturn_any (bf - af) w'))
    rw [hm2] at CT
    have HQF := Lib.hid (show (0 ≤ bf ∧ bf ≤ 3599) ∧ 0 ≤ o2 ∧ o2 ≤ 900 from ⟨hlim2.1, hlim2.2.2⟩)
    clear x1 x2 x3 x5 hlim1 hlim2 ho1 ho2 hm2 hm3
    go_wp2_with fail
    refine wp_region_turn 9 (fun _ w' => Below w4.heap.size w4 w') (by kernel_rfl) (by kernel_rfl) ((Below.refl _ w4).drew) ?_
    simp only [List.take_succ_cons, List.take_zero, List.drop_succ_cons, List.drop_zero]
    iterate 9
      (first
        | (apply turnC_step (by rfl); (intro w' hw'; obtain ⟨⟨q0, q1⟩, q2, q3⟩ := HK4.out w' hw'; go_simp; first | with_reducible exact ⟨hw', congrArg (Value.int .i64) e1⟩ | (rw [hlf]; with_reducible exact ⟨hw', congrArg (Value.int .i64) e2⟩) | (rw [hlf]; with_reducible exact ⟨hw', rfl⟩) | with_reducible exact ⟨hw', rfl⟩ | with_reducible exact rfl))
        | (apply turnC_step (by rfl); (intro w' hw'; go_simp; first | with_reducible exact C3.out w' hw' | with_reducible exact CT.out w' hw' | (rw [e1]; with_reducible exact CT.out w' hw'))))
      simp only [Act.put, List.setIfInBounds_toArray, List.set_cons_succ, List.set_cons_zero]
    intro listed2 w5 _ hw5
    have HB5 := Lib.hid hw5
    clear hw5 e1 e2 hlf C3 CT
    obtain ⟨⟨q0, q1⟩, p0, p1⟩ := HK4.out w5 HB5.out
    have hy3 := (HKD.out w5 HB5.out).2.2.1
    have r0 := cellH hy3 0
    have r1 := cellH hy3 1
    have rf := freeH hy3
    simp only [List.getElem?_toArray, List.getElem?_cons_zero, List.getElem?_cons_succ] at r0 r1
    clear hy3
    by_cases hneg : lf < 0
    · have HVW : Hid (V = mtN) := Lib.hid (by rw [HVV.out]; unfold mtK; rw [HLV.out, if_pos hneg])
      go_wp2_with fail
      obtain ⟨_, _, z0, zb⟩ := HKD.out w5 HB5.out
      obtain ⟨z1, z2⟩ := set2 z0 zb (by omega) (.int .i64 0) (.int .i64 0)
      refine bodyPost_ret (res_ct Try.results8 _ _ (w.heap.size + 1 + 1) 23 #[.int .i64 0, .int .i64 0] (0, 0) _ rfl z1 Try.underlying23 rfl info_we2) rfl ?_
      exact ⟨by rw [HVW.out]; rfl, z2⟩
    · have HVW : Hid (V = .tuple #[.agg #[.int .i64 bf, .int .i64 ((bf + min lf o2) % 3600)], .bool true]) := Lib.hid (by rw [HVV.out]; unfold mtK; rw [HLV.out, if_neg hneg, HOP2.out])
      have hq := HQF.out
      have hl3 := HL3.out
      obtain ⟨mn, hmn⟩ : ∃ z, min lf o2 = z := ⟨_, rfl⟩
      have e3 : IntKind.i64.wrap (bf + mn) = bf + mn := IntWalk.i64_in _ (by omega)
      have HTU := Lib.hid (fun w' => qturn_any (bf + mn) w')
      rw [hmn] at HVW
      obtain ⟨T, hT⟩ : ∃ z, (bf + mn) % 3600 = z := ⟨_, rfl⟩
      rw [hT] at HTU HVW
      have HLE : Hid (∀ (w' : World) (A : Nat), w'.heap[A]? = some (.cells #[.int .i64 o2] 3 (0, 0)) → Calls Try.prog 32 #[.int .i64 lf, .slice (some ⟨A, 0, none⟩) 1 1] w' fun e w'' => e = .returned (.int .i64 mn) ∧ w'' = w') := Lib.hid (fun w' A hA => by
        have h := least_any lf _ [o2] w' (row_one o2 hA) (by simp)
        have he : minL lf [o2] = mn := hmn
        rwa [he] at h)
      have HKS : Hid (∀ W', Below w5.heap.size w5 W' → Below w5.heap.size w5 W' ∧ W'.cell? ⟨w.heap.size + 1, 0, none⟩ = some (.int .i64 bf) ∧ W'.cell? ⟨w.heap.size + 1, 1, none⟩ = some (.int .i64 bt)) := Lib.hid (fun W' h => ⟨h, (HK4.out W' (HB5.out.trans (h.mono HB5.out.size))).2⟩)
      clear hq hl3 hmn hT
      go_wp2_with fail
      refine wp_region_invtail 12 (by kernel_rfl) (by kernel_rfl) (by kernel_rfl) (by kernel_rfl) (of_decide_eq_true (by kernel_rfl)) (by kernel_rfl) (MtInv w5 (w.heap.size + 1) bf bt o2 lf mn T _ _ _ _ _ _ _ _ _ _ _ _ _ _ _ _ _ _ _ _ _ _ _ _ _ _ _ _ _ _ _ _ _ _ _ _ _)
        ⟨false, false, false, false, false, false, false, false, false, false, false, false, 0, rfl, rfl, (Below.refl _ w5).drew, by simp⟩ ?hend ?hstep
      case hend =>
        rintro listed a w' ⟨l0, l1, l2, l3, l4, l5, l6, l7, l8, l9, l10, l11, A, rfl, rfl, hb, h7⟩ hall
        have hal : l0 = true ∧ l1 = true ∧ l2 = true ∧ l3 = true ∧ l4 = true ∧ l5 = true ∧ l6 = true ∧ l7 = true ∧ l8 = true ∧ l9 = true ∧ l10 = true ∧ l11 = true :=
          ⟨by simpa using hall 0 (by decide), by simpa using hall 1 (by decide), by simpa using hall 2 (by decide), by simpa using hall 3 (by decide), by simpa using hall 4 (by decide), by simpa using hall 5 (by decide), by simpa using hall 6 (by decide), by simpa using hall 7 (by decide), by simpa using hall 8 (by decide), by simpa using hall 9 (by decide), by simpa using hall 10 (by decide), by simpa using hall 11 (by decide)⟩
        obtain ⟨rfl, rfl, rfl, rfl, rfl, rfl, rfl, rfl, rfl, rfl, rfl, rfl⟩ := hal
        have HB9 := Lib.hid hb
        obtain ⟨_, _, z0, zb⟩ := HKD.out w' (HB5.out.trans (hb.mono HB5.out.size))
        have HZ0 := Lib.hid z0
        have HZB := Lib.hid zb
        have r0 := cellH z0 0
        have r1 := cellH z0 1
        have rf := freeH z0
        simp only [List.getElem?_toArray, List.getElem?_cons_zero, List.getElem?_cons_succ] at r0 r1
        clear hall h7 hb z0 zb e3
        simp only [onlyIf_true]
        simp only [List.drop_succ_cons, List.drop_zero]
        go_wp2_with fail
        obtain ⟨z1, z2⟩ := set2 HZ0.out HZB.out (by omega) (.int .i64 bf) (.int .i64 T)
        refine bodyPost_ret (res_ct Try.results8 _ _ (w.heap.size + 1 + 1) 23 #[.int .i64 bf, .int .i64 T] (0, 0) _ rfl z1 Try.underlying23 rfl info_we2) rfl ?_
        exact ⟨by rw [HVW.out]; rfl, z2⟩
      case hstep =>
        rintro listed a w' i ⟨l0, l1, l2, l3, l4, l5, l6, l7, l8, l9, l10, l11, A, rfl, rfl, hb, h7⟩ hi hin
        obtain ⟨hf, o', ho', hp⟩ := mem_ready.1 hi
        clear hi
        obtain ⟨_, q4, q5⟩ := HKS.out w' hb
        match i, hin with
        | 0, _ =>
          obtain rfl : l0 = false := by simpa using hf
          clear hp ho'
          unfold wpOp
          simp only [onlyIf_true]
          go_simp
          exact .inl ⟨true, l1, l2, l3, l4, l5, l6, l7, l8, l9, l10, l11, A, rfl, rfl, hb, h7⟩
        | 1, _ =>
          obtain rfl : l1 = false := by simpa using hf
          cases ho'
          obtain rfl : l0 = true := by simpa using hp ⟨0, .data⟩ (by simp) rfl
          clear hp
          unfold wpOp
          simp only [onlyIf_true]
          go_simp
          exact .inl ⟨true, true, l2, l3, l4, l5, l6, l7, l8, l9, l10, l11, A, rfl, rfl, hb, h7⟩
        | 2, _ =>
          obtain rfl : l2 = false := by simpa using hf
          clear hp ho'
          unfold wpOp
          simp only [onlyIf_true]
          go_simp
          exact .inl ⟨l0, l1, true, l3, l4, l5, l6, l7, l8, l9, l10, l11, A, rfl, rfl, hb, h7⟩
        | 3, _ =>
          obtain rfl : l3 = false := by simpa using hf
          cases ho'
          obtain rfl : l2 = true := by simpa using hp ⟨2, .data⟩ (by simp) rfl
          clear hp
          unfold wpOp
          simp only [onlyIf_true]
          go_simp
          exact .inl ⟨l0, l1, true, true, l4, l5, l6, l7, l8, l9, l10, l11, A, rfl, rfl, hb, h7⟩
        | 4, _ =>
          obtain rfl : l4 = false := by simpa using hf
          clear hp ho'
          unfold wpOp
          simp only [onlyIf_true]
          go_simp
          exact .inl ⟨l0, l1, l2, l3, true, l5, l6, l7, l8, l9, l10, l11, A, rfl, rfl, hb, h7⟩
        | 5, _ =>
          obtain rfl : l5 = false := by simpa using hf
          clear hp ho'
          unfold wpOp
          simp only [onlyIf_true]
          go_simp
          exact .inl ⟨l0, l1, l2, l3, l4, true, l6, l7, l8, l9, l10, l11, A, rfl, rfl, hb, h7⟩
        | 6, _ =>
          obtain rfl : l6 = false := by simpa using hf
          cases ho'
          obtain rfl : l5 = true := by simpa using hp ⟨5, .data⟩ (by simp) rfl
          clear hp
          unfold wpOp
          simp only [onlyIf_true]
          go_simp
          refine .inl ((HO2.out w').mono ?_)
          rintro e w9 ⟨rfl, hb9⟩
          exact ⟨l0, l1, l2, l3, l4, true, true, l7, l8, l9, l10, l11, A, rfl, rfl, hb.trans (hb9.mono hb.size), fun h => (hb9.block _ (Array.getElem?_eq_some_iff.1 (h7 h)).1).trans (h7 h)⟩
        | 7, _ =>
          obtain rfl : l7 = false := by simpa using hf
          cases ho'
          obtain rfl : l6 = true := by simpa using hp ⟨6, .data⟩ (by simp) rfl
          clear hp
          unfold wpOp
          simp only [onlyIf_true]
          go_simp
          exact .inl ⟨l0, l1, l2, l3, l4, l5, true, true, l8, l9, l10, l11, w'.heap.size, rfl, rfl, hb.alloc hb.size _, fun _ => heap_alloc_new _ _⟩
        | 8, _ =>
          obtain rfl : l8 = false := by simpa using hf
          cases ho'
          obtain rfl : l4 = true := by simpa using hp ⟨4, .data⟩ (by simp) rfl
          obtain rfl : l7 = true := by simpa using hp ⟨7, .data⟩ (by simp) rfl
          clear hp
          unfold wpOp
          simp only [onlyIf_true]
          go_simp
          refine .inl ((HLE.out w' A (h7 rfl)).mono ?_)
          rintro e w9 ⟨rfl, rfl⟩
          exact ⟨l0, l1, l2, l3, true, l5, l6, true, true, l9, l10, l11, A, rfl, rfl, hb, h7⟩
        | 9, _ =>
          obtain rfl : l9 = false := by simpa using hf
          cases ho'
          obtain rfl : l3 = true := by simpa using hp ⟨3, .data⟩ (by simp) rfl
          obtain rfl : l8 = true := by simpa using hp ⟨8, .data⟩ (by simp) rfl
          clear hp
          unfold wpOp
          simp only [onlyIf_true]
          go_simp
          exact .inl ⟨l0, l1, l2, true, l4, l5, l6, l7, true, true, l10, l11, A, rfl, rfl, hb, h7⟩
        | 10, _ =>
          obtain rfl : l10 = false := by simpa using hf
          cases ho'
          obtain rfl : l9 = true := by simpa using hp ⟨9, .data⟩ (by simp) rfl
          clear hp
          unfold wpOp
          simp only [onlyIf_true]
          go_simp
          refine .inl ((HTU.out w').mono ?_)
          rintro e w9 ⟨rfl, rfl⟩
          exact ⟨l0, l1, l2, l3, l4, l5, l6, l7, l8, true, true, l11, A, rfl, rfl, hb, h7⟩
        | 11, _ =>
          obtain rfl : l11 = false := by simpa using hf
          cases ho'
          obtain rfl : l1 = true := by simpa using hp ⟨1, .data⟩ (by simp) rfl
          obtain rfl : l10 = true := by simpa using hp ⟨10, .data⟩ (by simp) rfl
          clear hp
          unfold wpOp
          simp only [onlyIf_true]
          go_simp
          exact .inl ⟨l0, true, l2, l3, l4, l5, l6, l7, l8, l9, true, true, A, rfl, rfl, hb, h7⟩
end Go.Proofs.Ytpaihnjgpookjaa
