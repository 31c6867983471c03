/- Package circle: least, greatest, leftOf, Widen, Halves. -/
import Derived.Test.YtpaihnjgpookjaaCA5
set_option linter.unusedVariables false
set_option linter.unusedSimpArgs false
namespace Go.Proofs.Ytpaihnjgpookjaa
open Go Go.RowKit

def minL (n : Int) (l : List Int) : Int := l.foldl min n
def maxL (n : Int) (l : List Int) : Int := l.foldl max n
set_option maxRecDepth 100000 in
set_option maxHeartbeats 1000000 in
theorem least_any (n : Int) (v : Value) (l : List Int) (w : World) (hv : INRow w v l) (hl : l.length ≤ 1000000) :
    Calls Try.prog 32 #[.int .i64 n, v] w fun e w' => e = .returned (.int .i64 (minL n l)) ∧ w' = w := by
  obtain ⟨a, cap, rfl, hc⟩ := hv.form
  have HC := Lib.hid hc
  have HL : Hid (∀ k m, k < l.length → min (m : Int) (l.getD k 0) = m → True) := Lib.hid (fun _ _ _ _ => trivial)
  clear hc hv HL
  go_enter Try.func32, Try.ntmps32
  go_wp2_with fail
  go_loopw [0, 6, 9] (fun x y z wr => ∃ (k : Nat) (m : Int) (o : Value), k ≤ l.length ∧ x = .int .i64 m ∧ y = o ∧ z = .int .i64 k ∧ Hid (m = minL n (l.take k)) ∧ wr = w) (fun _ _ z _ => l.length - (intOf z).toNat)
  case atStart => exact ⟨0, n, _, Nat.zero_le _, rfl, rfl, rfl, Lib.hid rfl, rfl⟩
  case round =>
    obtain ⟨k, m, o, hk, rfl, rfl, rfl, hM, rfl⟩ := hrel
    by_cases hkl : k < l.length
    · obtain ⟨b, off, rfl, hb, c0⟩ := HC.out k hkl
      have hki : (k : Int) < l.length := by omega
      have hk0 : (0 : Int) ≤ k := by omega
      have HN : Hid (minL n (l.take (k + 1)) = min m (l.getD k 0)) := Lib.hid (by
        rw [List.take_succ_eq_append_getElem hkl, hM.out, List.getD_eq_getElem?_getD, List.getElem?_eq_getElem hkl]
        unfold minL; rw [List.foldl_append]; rfl)
      obtain ⟨x, hx⟩ : ∃ x, l.getD k 0 = x := ⟨_, rfl⟩
      rw [hx] at c0 HN
      clear hx
      go_wp2_with fail
      go_roundw
      case rel => exact ⟨k + 1, _, _, by omega, rfl, rfl, by go_num, Lib.hid HN.out.symm, by first | rfl | trivial⟩
      case measure => simp [intOf]; omega
    · obtain rfl : k = l.length := by omega
      have HN : Hid (m = minL n l) := Lib.hid (by rw [hM.out, List.take_length])
      go_wp2_with fail
      go_ret
      exact ⟨by rw [← HN.out]; rfl, rfl⟩
set_option maxRecDepth 100000 in
set_option maxHeartbeats 1000000 in
theorem greatest_any (n : Int) (v : Value) (l : List Int) (w : World) (hv : INRow w v l) (hl : l.length ≤ 1000000) :
    Calls Try.prog 80 #[.int .i64 n, v] w fun e w' => e = .returned (.int .i64 (maxL n l)) ∧ w' = w := by
  obtain ⟨a, cap, rfl, hc⟩ := hv.form
  have HC := Lib.hid hc
  have HL : Hid (∀ k m, k < l.length → max (m : Int) (l.getD k 0) = m → True) := Lib.hid (fun _ _ _ _ => trivial)
  clear hc hv HL
  go_enter Try.func80, Try.ntmps80
  go_wp2_with fail
  go_loopw [0, 6, 9] (fun x y z wr => ∃ (k : Nat) (m : Int) (o : Value), k ≤ l.length ∧ x = .int .i64 m ∧ y = o ∧ z = .int .i64 k ∧ Hid (m = maxL n (l.take k)) ∧ wr = w) (fun _ _ z _ => l.length - (intOf z).toNat)
  case atStart => exact ⟨0, n, _, Nat.zero_le _, rfl, rfl, rfl, Lib.hid rfl, rfl⟩
  case round =>
    obtain ⟨k, m, o, hk, rfl, rfl, rfl, hM, rfl⟩ := hrel
    by_cases hkl : k < l.length
    · obtain ⟨b, off, rfl, hb, c0⟩ := HC.out k hkl
      have hki : (k : Int) < l.length := by omega
      have hk0 : (0 : Int) ≤ k := by omega
      have HN : Hid (maxL n (l.take (k + 1)) = max m (l.getD k 0)) := Lib.hid (by
        rw [List.take_succ_eq_append_getElem hkl, hM.out, List.getD_eq_getElem?_getD, List.getElem?_eq_getElem hkl]
        unfold maxL; rw [List.foldl_append]; rfl)
      obtain ⟨x, hx⟩ : ∃ x, l.getD k 0 = x := ⟨_, rfl⟩
      rw [hx] at c0 HN
      clear hx
      go_wp2_with fail
      go_roundw
      case rel => exact ⟨k + 1, _, _, by omega, rfl, rfl, by go_num, Lib.hid HN.out.symm, by first | rfl | trivial⟩
      case measure => simp [intOf]; omega
    · obtain rfl : k = l.length := by omega
      have HN : Hid (m = maxL n l) := Lib.hid (by rw [hM.out, List.take_length])
      go_wp2_with fail
      go_ret
      exact ⟨by rw [← HN.out]; rfl, rfl⟩
/-! leftOf. -/
theorem info_hf3 : (Try.prog.info? 38).map (·.size) = some 3 := by kernel_rfl
theorem mul_cc {a b : Int} (ha : -450 ≤ a ∧ a ≤ 450) (hb : 0 ≤ b ∧ b ≤ 48) : -21600 ≤ a * b ∧ a * b ≤ 21600 := by
  have h1 := Int.mul_nonneg (show 0 ≤ a + 450 by omega) hb.1
  have h2 := Int.mul_nonneg (show 0 ≤ 450 - a by omega) hb.1
  rw [Int.add_mul] at h1
  rw [Int.sub_mul] at h2
  omega
set_option maxRecDepth 100000 in
set_option maxHeartbeats 1000000 in
theorem leftOf_any (vx vy a b : Int) (w : World) (hx : -450 ≤ vx ∧ vx ≤ 450) (hy : -450 ≤ vy ∧ vy ≤ 450) (ha : 0 ≤ a ∧ a ≤ 48) (hb : 0 ≤ b ∧ b ≤ 48) :
    Calls Try.prog 47 #[.agg #[.int .i64 vx, .int .i64 vy], .agg #[.int .i64 a, .int .i64 b]] w fun e w' => e = .returned (.agg #[.int .i64 vy, .int .i64 (-vx), .int .i64 (vy * a - vx * b)]) ∧ Below w.heap.size w w' := by
  have h1 := mul_cc hy ha
  have h2 := mul_cc hx hb
  obtain ⟨p, hp⟩ : ∃ z, vy * a = z := ⟨_, rfl⟩
  obtain ⟨q, hq⟩ : ∃ z, vx * b = z := ⟨_, rfl⟩
  rw [hp] at h1 ⊢
  rw [hq] at h2 ⊢
  have HX := Lib.hid (cells3 w #[.int .i64 vx, .int .i64 vy] #[.int .i64 a, .int .i64 b] #[.int .i64 vy, .int .i64 (-vx), .int .i64 (p - q)] 25 25 38 (Below.refl _ _))
  have e1 : IntKind.i64.wrap p = p := IntWalk.i64_in _ (by omega)
  have e2 : IntKind.i64.wrap q = q := IntWalk.i64_in _ (by omega)
  have e3 : IntKind.i64.wrap (p - q) = p - q := IntWalk.i64_in _ (by omega)
  have e4 : IntKind.i64.wrap (-vx) = -vx := IntWalk.i64_in _ (by omega)
  clear h1 h2 hx hy ha hb
  go_enter Try.func47, Try.ntmps47
  go_wp2_with fail
  refine bodyPost_ret (results_cell_row Try.results47 _ _ (w.heap.size + 1 + 1) 38 #[.int .i64 vy, .int .i64 (-vx), .int .i64 (p - q)] (0, 0) _ rfl HX.out.2.2.1 Try.underlying38 rfl info_hf3) rfl ?_
  exact ⟨rfl, HX.out.2.2.2.2⟩
/-! Widen. -/
def wdB (f t n : Int) : Bool := vwB f t && decide (0 ≤ n) && decide (n ≤ (900 - opI f t) / 2)
def wdF (f t n : Int) : Int := if wdB f t n = true then (f - n) % 3600 else 0
def wdT (f t n : Int) : Int := if wdB f t n = true then (t + n) % 3600 else 0
theorem info_we2 : (Try.prog.info? 23).map (·.size) = some 2 := by kernel_rfl
set_option maxRecDepth 100000 in
set_option maxHeartbeats 2000000 in
theorem Widen_any (f t n : Int) (w : World) : Calls Try.prog 10 #[.agg #[.int .i64 f, .int .i64 t], .int .i64 n] w fun e w' => e = .returned (.tuple #[.agg #[.int .i64 (wdF f t n), .int .i64 (wdT f t n)], .bool (wdB f t n)]) ∧ Below w.heap.size w w' := by
  have H2 := Lib.hid (fun w' => validWedge_any f t w')
  have H3 := Lib.hid (fun w' => Opening_any f t w')
  have HVW := Lib.hid (vw_ok (f := f) (t := t))
  have HBB : Hid (wdB f t n = (vwB f t && decide (0 ≤ n) && decide (n ≤ (900 - opI f t) / 2))) := Lib.hid rfl
  have HF : Hid (wdF f t n = if wdB f t n = true then (f - n) % 3600 else 0) := Lib.hid rfl
  have HT : Hid (wdT f t n = if wdB f t n = true then (t + n) % 3600 else 0) := Lib.hid rfl
  obtain ⟨vw, hvw⟩ : ∃ z, vwB f t = z := ⟨_, rfl⟩
  obtain ⟨o, ho⟩ : ∃ z, opI f t = z := ⟨_, rfl⟩
  obtain ⟨B, hB⟩ : ∃ z, wdB f t n = z := ⟨_, rfl⟩
  obtain ⟨F, hF⟩ : ∃ z, wdF f t n = z := ⟨_, rfl⟩
  obtain ⟨T, hT⟩ : ∃ z, wdT f t n = z := ⟨_, rfl⟩
  rw [hvw] at H2 HBB HVW
  rw [ho] at H3 HBB HVW
  rw [hB] at HBB HF HT ⊢
  rw [hF] at HF ⊢
  rw [hT] at HT ⊢
  have HA := Lib.hid (fun W' => two_cells w #[.int .i64 f, .int .i64 t] #[.int .i64 0, .int .i64 0] 23 23 (W := W'))
  have HB0 := Lib.hid (Below.refl ((w.alloc (.cells #[.int .i64 f, .int .i64 t] 23)).alloc (.cells #[.int .i64 0, .int .i64 0] 23)).heap.size ((w.alloc (.cells #[.int .i64 f, .int .i64 t] 23)).alloc (.cells #[.int .i64 0, .int .i64 0] 23)))
  obtain ⟨Z, hZ⟩ : ∃ Z, (w.alloc (.cells #[.int .i64 f, .int .i64 t] 23)).alloc (.cells #[.int .i64 0, .int .i64 0] 23) = Z := ⟨_, rfl⟩
  rw [hZ] at HA HB0
  have HZ := Lib.hid hZ
  clear hZ hvw ho hB hF hT
  have HRD : Hid (∀ W', Below Z.heap.size Z W' → (W'.cell? ⟨w.heap.size, 0, none⟩ = some (.int .i64 f) ∧ W'.cell? ⟨w.heap.size, 1, none⟩ = some (.int .i64 t)) ∧ (W'.cell? ⟨w.heap.size + 1, 0, none⟩ = some (.int .i64 0) ∧ W'.cell? ⟨w.heap.size + 1, 1, none⟩ = some (.int .i64 0)) ∧ (∀ o, W'.frozen? ⟨w.heap.size + 1, o, none⟩ = false)) := Lib.hid (fun W' h => by
    obtain ⟨x1, x2, _⟩ := HA.out W' h
    exact ⟨⟨cellH x1 0, cellH x1 1⟩, ⟨cellH x2 0, cellH x2 1⟩, freeH x2⟩)
  have HBAD : Hid (∀ (W' : World) (V : Value), B = false → Below Z.heap.size Z W' → True) := Lib.hid (fun _ _ _ _ => trivial)
  clear HBAD
  go_enter Try.func10, Try.ntmps10
  go_wp2_with fail
  rw [HZ.out]
  refine (H2.out Z).mono ?_
  rintro e w1 ⟨rfl, hb⟩
  have HB1 := Lib.hid hb
  obtain ⟨⟨q0, q1⟩, ⟨r0, r1⟩, rf⟩ := HRD.out w1 hb
  clear hb
  cases vw
  · have HN : Hid (B = false) := Lib.hid (by rw [HBB.out]; rfl)
    go_wp2_with fail
    obtain ⟨_, z0, _, zb⟩ := HA.out w1 HB1.out
    obtain ⟨z1, z2⟩ := set2 z0 zb (by omega) (.int .i64 0) (.int .i64 0)
    refine bodyPost_ret (res_ct Try.results10 _ _ (w.heap.size + 1) 23 #[.int .i64 0, .int .i64 0] (0, 0) _ rfl z1 Try.underlying23 rfl info_we2) rfl ?_
    exact ⟨by rw [HF.out, HT.out, HN.out]; rfl, z2⟩
  by_cases hn : n < 0
  · have HN : Hid (B = false) := Lib.hid (by rw [HBB.out, decide_eq_false (by omega : ¬ 0 ≤ n)]; simp)
    go_wp2_with fail
    obtain ⟨_, z0, _, zb⟩ := HA.out w1 HB1.out
    obtain ⟨z1, z2⟩ := set2 z0 zb (by omega) (.int .i64 0) (.int .i64 0)
    refine bodyPost_ret (res_ct Try.results10 _ _ (w.heap.size + 1) 23 #[.int .i64 0, .int .i64 0] (0, 0) _ rfl z1 Try.underlying23 rfl info_we2) rfl ?_
    exact ⟨by rw [HF.out, HT.out, HN.out]; rfl, z2⟩
  obtain ⟨k1, k2, k3, k4, k5⟩ := HVW.out rfl
  have t1 : (900 - o).tdiv 2 = (900 - o) / 2 := Int.tdiv_eq_ediv_of_nonneg (by omega)
  obtain ⟨h, hh⟩ : ∃ z, (900 - o) / 2 = z := ⟨_, rfl⟩
  rw [hh] at t1 HBB
  have e1 : IntKind.i64.wrap (900 - o) = 900 - o := IntWalk.i64_in _ (by omega)
  have e2 : IntKind.i64.wrap h = h := IntWalk.i64_in _ (by omega)
  have HK := Lib.hid (show (0 ≤ f ∧ f ≤ 3599) ∧ (0 ≤ t ∧ t ≤ 3599) ∧ 0 ≤ o ∧ o ≤ 900 ∧ h ≤ 450 by omega)
  clear k1 k2 k3 k4 k5 hh
  have HN0 := Lib.hid hn
  go_wp2_with fail
  refine (H3.out w1).mono ?_
  rintro e w2 ⟨rfl, hb⟩
  have HB2 := Lib.hid (HB1.out.trans (hb.mono HB1.out.size))
  clear hb q0 q1 r0 r1 rf
  obtain ⟨⟨q0, q1⟩, ⟨r0, r1⟩, rf⟩ := HRD.out w2 HB2.out
  by_cases hl : h < n
  · have HN : Hid (B = false) := Lib.hid (by rw [HBB.out, decide_eq_false (by omega : ¬ n ≤ h)]; simp)
    go_wp2_with fail
    obtain ⟨_, z0, _, zb⟩ := HA.out w2 HB2.out
    obtain ⟨z1, z2⟩ := set2 z0 zb (by omega) (.int .i64 0) (.int .i64 0)
    refine bodyPost_ret (res_ct Try.results10 _ _ (w.heap.size + 1) 23 #[.int .i64 0, .int .i64 0] (0, 0) _ rfl z1 Try.underlying23 rfl info_we2) rfl ?_
    exact ⟨by rw [HF.out, HT.out, HN.out]; rfl, z2⟩
  have HN : Hid (B = true) := Lib.hid (by rw [HBB.out, decide_eq_true (by omega : n ≤ h), decide_eq_true (by omega : 0 ≤ n)]; rfl)
  have hk := HK.out
  have e3 : IntKind.i64.wrap (f - n) = f - n := IntWalk.i64_in _ (by omega)
  have e4 : IntKind.i64.wrap (t + n) = t + n := IntWalk.i64_in _ (by omega)
  have C4 := Lib.hid (upQ (Z := w2) (fun w' => qturn_any (f - n) w'))
  have C5 := Lib.hid (upQ (Z := w2) (fun w' => qturn_any (t + n) w'))
  have HFF : Hid ((f - n) % 3600 = F) := Lib.hid (by rw [HF.out, HN.out]; rfl)
  have HTT : Hid ((t + n) % 3600 = T) := Lib.hid (by rw [HT.out, HN.out]; rfl)
  rw [HFF.out] at C4
  rw [HTT.out] at C5
  have HRD2 : Hid (∀ W', Below w2.heap.size w2 W' → (W'.cell? ⟨w.heap.size, 0, none⟩ = some (.int .i64 f) ∧ W'.cell? ⟨w.heap.size, 1, none⟩ = some (.int .i64 t))) := Lib.hid (fun W' h => (HRD.out W' (HB2.out.trans (h.mono HB2.out.size))).1)
  clear hk
  go_wp2_with fail
  refine wp_region_turn 11 (fun _ w' => Below w2.heap.size w2 w') (by kernel_rfl) (by kernel_rfl) ((Below.refl _ w2).drew) ?_
  simp only [List.take_succ_cons, List.take_zero, List.drop_succ_cons, List.drop_zero]
  iterate 11
    (first
      | (apply turnC_step (by rfl); (intro w' hw'; obtain ⟨q0, q1⟩ := HRD2.out w' hw'; go_simp; first | exact ⟨hw', rfl⟩ | exact rfl))
      | (apply turnC_step (by rfl); (intro w' hw'; go_simp; first | (rw [e3]; exact C4.out w' hw') | exact C4.out w' hw' | (rw [e4]; exact C5.out w' hw') | exact C5.out w' hw')))
    simp only [Act.put, List.setIfInBounds_toArray, List.set_cons_succ, List.set_cons_zero]
  intro listed w5 _ hw5
  have HB5 := Lib.hid (HB2.out.trans (hw5.mono HB2.out.size))
  clear hw5 q0 q1 r0 r1 rf
  obtain ⟨⟨q0, q1⟩, ⟨r0, r1⟩, rf⟩ := HRD.out w5 HB5.out
  go_wp2_with fail
  obtain ⟨_, z0, _, zb⟩ := HA.out w5 HB5.out
  obtain ⟨z1, z2⟩ := set2 z0 zb (by omega) (.int .i64 F) (.int .i64 T)
  refine bodyPost_ret (res_ct Try.results10 _ _ (w.heap.size + 1) 23 #[.int .i64 F, .int .i64 T] (0, 0) _ rfl z1 Try.underlying23 rfl info_we2) rfl ?_
  exact ⟨by rw [HN.out]; rfl, z2⟩
end Go.Proofs.Ytpaihnjgpookjaa
