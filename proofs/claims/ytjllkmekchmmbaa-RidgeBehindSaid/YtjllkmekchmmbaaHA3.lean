/- axes, part and validLine of package ridge. -/
import Derived.Test.YtjllkmekchmmbaaHA2
set_option linter.unusedVariables false
set_option linter.unusedSimpArgs false
namespace Go.Proofs.Ytjllkmekchmmbaa
open Go Go.RowKit

theorem info_two : (Try.prog.info? 53).map (·.size) = some 2 := by kernel_rfl
set_option maxRecDepth 100000 in
theorem axes_any (p : Pl) (w : World) : Calls Try.prog 106 #[plV p] w fun e w' => e = .returned (.agg #[.int .i64 p.1, .int .i64 p.2]) ∧ Below w.heap.size w w' := by
  obtain ⟨x, y⟩ := p
  unfold plV
  simp only
  go_enter Try.func106, Try.ntmps106
  go_wp2_with fail
  refine bodyPost_ret (results_cell_row Try.results106 _ _ (w.heap.size + 1) 53 #[.int .i64 x, .int .i64 y] (0, 0) _ rfl (gAt _ _ _ (by simp)) Try.underlying53 rfl info_two) rfl ?_
  exact ⟨rfl, ((Below.refl _ w).alloc (Nat.le_refl w.heap.size) _).alloc (by simp) _⟩

/-- A crossing of a line: its axis and step, how many steps the line has along the axis, and the ground there, so many times. -/
structure Mt where
  ax : Int
  k : Int
  n : Int
  g : Int
def mtV (x : Mt) : Value := .agg #[.int .i64 x.ax, .int .i64 x.k, .int .i64 x.n, .int .i64 x.g]
def partI (x : Mt) (a b : Int) : Int := (x.n - x.k) * a + x.k * b
set_option maxRecDepth 100000 in
theorem part_any (x : Mt) (a b : Int) (w : World) (h0 : 0 ≤ x.k ∧ x.k ≤ x.n ∧ x.n ≤ 48) (ha : 0 ≤ a ∧ a ≤ 100000) (hb : 0 ≤ b ∧ b ≤ 100000) :
    Calls Try.prog 98 #[mtV x, .int .i64 a, .int .i64 b] w fun e w' => e = .returned (.int .i64 (partI x a b)) ∧ Below w.heap.size w w' := by
  obtain ⟨ax, k, n, g⟩ := x
  simp only at h0
  have HV : Hid (partI ⟨ax, k, n, g⟩ a b = (n - k) * a + k * b) := Lib.hid rfl
  unfold mtV
  have m1 : 0 ≤ (n - k) * a := Int.mul_nonneg (by omega) (by omega)
  have m2 : (n - k) * a ≤ 48 * 100000 := Int.mul_le_mul (by omega) ha.2 ha.1 (by omega)
  have m3 : 0 ≤ k * b := Int.mul_nonneg (by omega) (by omega)
  have m4 : k * b ≤ 48 * 100000 := Int.mul_le_mul (by omega) hb.2 hb.1 (by omega)
  have e0 : IntKind.i64.wrap (n - k) = n - k := IntWalk.i64_in _ (by omega)
  have e1 : IntKind.i64.wrap ((n - k) * a) = (n - k) * a := IntWalk.i64_in _ (by omega)
  have e2 : IntKind.i64.wrap (k * b) = k * b := IntWalk.i64_in _ (by omega)
  have e3 : IntKind.i64.wrap ((n - k) * a + k * b) = (n - k) * a + k * b := IntWalk.i64_in _ (by omega)
  have HB := Lib.hid ((Below.refl _ w).alloc (Nat.le_refl w.heap.size) (.cells #[.int .i64 ax, .int .i64 k, .int .i64 n, .int .i64 g] 134))
  clear m1 m2 m3 m4 h0 ha hb
  go_enter Try.func98, Try.ntmps98
  go_wp2_with fail
  go_ret
  exact ⟨ret_int' HV.out.symm, HB.out⟩

/-- The heights that a line is given are heights. -/
def tallB (l : List Int) : Bool := l.all fun n => wiB n 0 200
def vlB (wd hg : Int) (g : List Int) (a b : Pl) (l : List Int) : Bool := vmB wd hg g && onB wd hg a && onB wd hg b && tallB l
set_option maxRecDepth 100000 in
set_option maxHeartbeats 1000000 in
theorem validLine_any (wd hg : Int) (o : Value) (g : List Int) (a b : Pl) (v : Value) (l : List Int) (w : World) (hv : INRow w o g) (hl : g.length ≤ 9223372036854775807) (hu : INRow w v l) (hl2 : l.length ≤ 1000) :
    Calls Try.prog 76 #[mpV wd hg o, plV a, plV b, v] w fun e w' => e = .returned (.bool (vlB wd hg g a b l)) ∧ Below w.heap.size w w' := by
  have HV : Hid (vlB wd hg g a b l = (vmB wd hg g && onB wd hg a && onB wd hg b && tallB l)) := Lib.hid rfl
  have HC1 := Lib.hid (fun w' (h : Below w.heap.size w w') => validMap_any wd hg o g w' (hv.keep h) hl)
  obtain ⟨oa, oc, rfl, _⟩ := hv.form
  obtain ⟨va, vc, rfl, hc⟩ := hu.form
  have HC := Lib.hid hc
  have HC2 := Lib.hid (fun w' => On_any wd hg (.slice oa g.length oc) a w')
  have HC3 := Lib.hid (fun w' => On_any wd hg (.slice oa g.length oc) b w')
  obtain ⟨a1, a2⟩ := a
  obtain ⟨b1, b2⟩ := b
  unfold mpV at HC1 HC2 HC3 ⊢
  unfold plV at HC2 HC3 ⊢
  simp only at HC2 HC3 ⊢
  clear hv hu hc hl
  have HA := Lib.hid (fun W' => three_cells w #[.int .i64 wd, .int .i64 hg, .slice oa g.length oc] #[.int .i64 a1, .int .i64 a2] #[.int .i64 b1, .int .i64 b2] 24 30 30 (W := W'))
  have HB0 := Lib.hid ((((Below.refl _ w).alloc (Nat.le_refl w.heap.size) (.cells #[.int .i64 wd, .int .i64 hg, .slice oa g.length oc] 24)).alloc (by simp) (.cells #[.int .i64 a1, .int .i64 a2] 30)).alloc (by simp; omega) (.cells #[.int .i64 b1, .int .i64 b2] 30))
  obtain ⟨W1, hW1⟩ : ∃ W1, ((w.alloc (.cells #[.int .i64 wd, .int .i64 hg, .slice oa g.length oc] 24)).alloc (.cells #[.int .i64 a1, .int .i64 a2] 30)).alloc (.cells #[.int .i64 b1, .int .i64 b2] 30) = W1 := ⟨_, rfl⟩
  rw [hW1] at HA HB0
  have HW1 := Lib.hid hW1
  have ead : w.heap.size + 1 + 1 = w.heap.size + 2 := rfl
  clear hW1
  cases h1 : vmB wd hg g
  · rw [h1] at HC1
    have HN : Hid (vlB wd hg g (a1, a2) (b1, b2) l = false) := Lib.hid (by rw [HV.out, h1]; rfl)
    clear h1
    go_enter Try.func76, Try.ntmps76
    go_wp2_with fail
    rw [HW1.out]
    refine (HC1.out _ HB0.out).mono ?_
    rintro e w2 ⟨rfl, hb2⟩
    have HB2 := Lib.hid (HB0.out.trans (hb2.mono HB0.out.size))
    clear hb2
    go_wp2_with fail
    go_ret
    exact ⟨ret_bool' HN.out.symm, HB2.out⟩
  rw [h1] at HC1
  cases h2 : onB wd hg (a1, a2)
  · rw [h2] at HC2
    have HN : Hid (vlB wd hg g (a1, a2) (b1, b2) l = false) := Lib.hid (by rw [HV.out, h2]; simp)
    clear h1 h2
    go_enter Try.func76, Try.ntmps76
    go_wp2_with fail
    rw [HW1.out]
    refine (HC1.out _ HB0.out).mono ?_
    rintro e w2 ⟨rfl, hb2⟩
    obtain ⟨m0, m1, m2, _, hw2⟩ := HA.out w2 hb2
    have HB2 := Lib.hid hw2
    have q0 := cellH m0 0
    have q1 := cellH m0 1
    have q2 := cellH m0 2
    have r0 := cellH m1 0
    have r1 := cellH m1 1
    simp at q0 q1 q2 r0 r1
    clear hb2 m0 m1 m2 hw2
    go_wp2_with fail
    refine (HC2.out _).mono ?_
    rintro e w3 ⟨rfl, hb3⟩
    have HB3 := Lib.hid (HB2.out.trans (hb3.mono HB2.out.size))
    clear hb3 q0 q1 q2 r0 r1
    go_wp2_with fail
    go_ret
    exact ⟨ret_bool' HN.out.symm, HB3.out⟩
  rw [h2] at HC2
  cases h3 : onB wd hg (b1, b2)
  · rw [h3] at HC3
    have HN : Hid (vlB wd hg g (a1, a2) (b1, b2) l = false) := Lib.hid (by rw [HV.out, h3]; simp)
    clear h1 h2 h3
    go_enter Try.func76, Try.ntmps76
    go_wp2_with fail
    rw [HW1.out]
    refine (HC1.out _ HB0.out).mono ?_
    rintro e w2 ⟨rfl, hb2⟩
    obtain ⟨m0, m1, m2, _, hw2⟩ := HA.out w2 hb2
    have HB2 := Lib.hid hw2
    have HD2 := Lib.hid hb2
    have q0 := cellH m0 0
    have q1 := cellH m0 1
    have q2 := cellH m0 2
    have r0 := cellH m1 0
    have r1 := cellH m1 1
    simp at q0 q1 q2 r0 r1
    clear hb2 m0 m1 m2 hw2
    go_wp2_with fail
    refine (HC2.out _).mono ?_
    rintro e w3 ⟨rfl, hb3⟩
    clear q0 q1 q2 r0 r1
    have HD3 := Lib.hid (HD2.out.trans (hb3.mono HD2.out.size))
    obtain ⟨m0, m1, m2, _, hw3⟩ := HA.out w3 HD3.out
    have q0 := cellH m0 0
    have q1 := cellH m0 1
    have q2 := cellH m0 2
    have r0 := cellH m2 0
    have r1 := cellH m2 1
    simp at q0 q1 q2 r0 r1
    have HB3 := Lib.hid (HB2.out.trans (hb3.mono HB2.out.size))
    clear hb3 m0 m1 m2 hw3
    go_wp2_with fail
    refine (HC3.out _).mono ?_
    rintro e w4 ⟨rfl, hb4⟩
    have HB4 := Lib.hid (HB3.out.trans (hb4.mono HB3.out.size))
    clear hb4 q0 q1 q2 r0 r1
    go_wp2_with fail
    go_ret
    exact ⟨ret_bool' HN.out.symm, HB4.out⟩
  rw [h3] at HC3
  have HT0 : Hid (vlB wd hg g (a1, a2) (b1, b2) l = tallB l) := Lib.hid (by rw [HV.out, h1, h2, h3]; simp)
  clear h1 h2 h3
  go_enter Try.func76, Try.ntmps76
  go_wp2_with fail
  rw [HW1.out]
  refine (HC1.out _ HB0.out).mono ?_
  rintro e w2 ⟨rfl, hb2⟩
  obtain ⟨m0, m1, m2, _, hw2⟩ := HA.out w2 hb2
  have HB2 := Lib.hid hw2
  have HD2 := Lib.hid hb2
  have q0 := cellH m0 0
  have q1 := cellH m0 1
  have q2 := cellH m0 2
  have r0 := cellH m1 0
  have r1 := cellH m1 1
  simp at q0 q1 q2 r0 r1
  clear hb2 m0 m1 m2 hw2
  go_wp2_with fail
  refine (HC2.out _).mono ?_
  rintro e w3 ⟨rfl, hb3⟩
  clear q0 q1 q2 r0 r1
  have HD3 := Lib.hid (HD2.out.trans (hb3.mono HD2.out.size))
  obtain ⟨m0, m1, m2, _, hw3⟩ := HA.out w3 HD3.out
  have q0 := cellH m0 0
  have q1 := cellH m0 1
  have q2 := cellH m0 2
  have r0 := cellH m2 0
  have r1 := cellH m2 1
  simp at q0 q1 q2 r0 r1
  have HB3 := Lib.hid (HB2.out.trans (hb3.mono HB2.out.size))
  clear hb3 m0 m1 m2 hw3
  go_wp2_with fail
  refine (HC3.out _).mono ?_
  rintro e w4 ⟨rfl, hb4⟩
  have HB4 := Lib.hid (HB3.out.trans (hb4.mono HB3.out.size))
  clear hb4 q0 q1 q2 r0 r1
  go_wp2_with fail
  go_loopw [28] (fun i wr => ∃ (k : Nat), k ≤ l.length ∧ i = .int .i64 k ∧ Hid (vlB wd hg g (a1, a2) (b1, b2) l = tallB (l.drop k)) ∧ Hid (Below w.heap.size w wr)) (fun i _ => l.length - (intOf i).toNat)
  case atStart => exact ⟨0, Nat.zero_le _, rfl, HT0, HB4⟩
  case round =>
    obtain ⟨k, hk, rfl, hT, hB⟩ := hrel
    by_cases hkl : k < l.length
    · obtain ⟨b, off, rfl, hb, c0⟩ := HC.out k hkl
      have hki : (k : Int) < l.length := by omega
      have hk0 : (0 : Int) ≤ k := by omega
      have e0 := (hB.out.cell (p := ⟨b, _, none⟩) hb).trans c0
      have hD : Hid (tallB (l.drop k) = (wiB (l.getD k 0) 0 200 && tallB (l.drop (k + 1)))) := Lib.hid (by
        unfold tallB
        rw [all_drop _ hkl, List.getD_eq_getElem?_getD, List.getElem?_eq_getElem hkl]; rfl)
      obtain ⟨x, hx⟩ : ∃ x, l.getD k 0 = x := ⟨_, rfl⟩
      rw [hx] at e0 hD
      have HH := Lib.hid (validTall_any x)
      clear c0 hb hx
      cases q : wiB x 0 200
      · rw [q] at HH
        have HN : Hid (vlB wd hg g (a1, a2) (b1, b2) l = false) := Lib.hid (by rw [hT.out, hD.out, q]; rfl)
        clear hD q
        go_wp2_with fail
        refine (HH.out _).mono ?_
        rintro e w1 ⟨rfl, rfl⟩
        go_wp2_with fail
        go_ret
        exact ⟨ret_bool' HN.out.symm, hB.out⟩
      · rw [q] at HH
        have HN : Hid (vlB wd hg g (a1, a2) (b1, b2) l = tallB (l.drop (k + 1))) := Lib.hid (by rw [hT.out, hD.out, q]; rfl)
        clear hD q
        go_wp2_with fail
        refine (HH.out _).mono ?_
        rintro e w1 ⟨rfl, rfl⟩
        go_wp2_with fail
        go_roundw
        case rel => exact ⟨k + 1, by omega, by go_num, HN, hB⟩
        case measure => simp [intOf]; omega
    · obtain rfl : k = l.length := by omega
      have HN : Hid (vlB wd hg g (a1, a2) (b1, b2) l = true) := Lib.hid (by rw [hT.out, List.drop_length]; rfl)
      go_wp2_with fail
      go_ret
      exact ⟨ret_bool' HN.out.symm, hB.out⟩
end Go.Proofs.Ytjllkmekchmmbaa
