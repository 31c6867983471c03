/- divisor and lowest of package ridge. -/
import Derived.Test.YtnacgogcbbpjmaaHA1
import Derived.BigRegion
set_option linter.unusedVariables false
set_option linter.unusedSimpArgs false
namespace Go.Proofs.Ytnacgogcbbpjmaa
open Go Go.RowKit

theorem below_drewN {n : Nat} {w W : World} (h : Below n w W) (k : Nat) : Below n w (W.drewN k) := ⟨h.os, h.tape, h.output, h.size, h.block⟩
theorem gcd_step (a b : Int) : Int.gcd b (a.tmod b) = Int.gcd a b := by
  have h : a.tmod b = a - b * (a.tdiv b) := by have := Int.tmod_add_mul_tdiv a b; omega
  rw [h, Int.gcd_comm b, Int.mul_comm b, Int.gcd_sub_mul_right_left]
set_option maxRecDepth 100000 in
set_option maxHeartbeats 1000000 in
theorem divisor_any (a b : Int) (w : World) (ha : -2305843009213693952 ≤ a ∧ a ≤ 2305843009213693952) (hb : -2305843009213693952 ≤ b ∧ b ≤ 2305843009213693952) :
    Calls Try.prog 75 #[.int .i64 a, .int .i64 b] w fun e w' => e = .returned (.int .i64 (Int.gcd a b : Int)) ∧ Below w.heap.size w w' := by
  go_enter Try.func75, Try.ntmps75
  go_wp2_with fail
  go_loopw [0, 1] (fun x y wr => ∃ (p q : Int), x = .int .i64 p ∧ y = .int .i64 q ∧ Hid (Int.gcd p q = Int.gcd a b) ∧ (-2305843009213693952 ≤ p ∧ p ≤ 2305843009213693952) ∧ (-2305843009213693952 ≤ q ∧ q ≤ 2305843009213693952) ∧ Hid (Below w.heap.size w wr)) (fun _ y _ => (intOf y).natAbs)
  case atStart => exact ⟨a, b, rfl, rfl, Lib.hid rfl, ha, hb, Lib.hid (Below.refl _ _)⟩
  case round =>
    obtain ⟨p, q, rfl, rfl, hG, hp, hq, hB⟩ := hrel
    by_cases h0 : q = 0
    · subst h0
      have hN : (Int.gcd a b : Int) = max p (-p) := by
        rw [← hG.out, Int.gcd_zero_right]; omega
      have HN := Lib.hid hN
      have e1 : IntKind.i64.wrap (-p) = -p := IntWalk.i64_in _ (by omega)
      clear hN
      go_wp2_with fail
      go_ret
      exact ⟨ret_int' HN.out.symm, hB.out⟩
    · have g0 : (q != 0) = true := by simpa using h0
      have hr : (p.tmod q).natAbs < q.natAbs := by rw [Int.natAbs_tmod]; exact Nat.mod_lt _ (by omega)
      have e1 : IntKind.i64.wrap (p.tmod q) = p.tmod q := IntWalk.i64_in _ (by omega)
      have w1 : wrap64 (p.tmod q) = p.tmod q := w64 (by omega)
      have HG2 := Lib.hid ((gcd_step p q).trans hG.out)
      have HM := Lib.hid hr
      go_wp2_with fail
      go_quiet (fail)
      go_wp2_with fail
      go_roundw
      case rel => exact ⟨q, p.tmod q, rfl, rfl, HG2, hq, by omega, Lib.hid (below_drewN hB.out _)⟩
      case measure =>
        have hm := HM.out
        simp only [intOf, w1]
        exact hm
/-- A fraction in lowest terms. -/
def lowP (n d : Int) : Int × Int := (n / (Int.gcd n d : Int), d / (Int.gcd n d : Int))
theorem info_fr : (Try.prog.info? 69).map (·.size) = some 2 := by kernel_rfl
set_option maxRecDepth 100000 in
set_option maxHeartbeats 1000000 in
theorem lowest_any (n d : Int) (w : World) (hn : -2305843009213693952 ≤ n ∧ n ≤ 2305843009213693952) (hd : 1 ≤ d ∧ d ≤ 2305843009213693952) :
    Calls Try.prog 47 #[.int .i64 n, .int .i64 d] w fun e w' => e = .returned (.agg #[.int .i64 (lowP n d).1, .int .i64 (lowP n d).2]) ∧ Below w.heap.size w w' := by
  have HD := Lib.hid (fun w' => divisor_any n d w' hn (by omega))
  have hg1 : 1 ≤ (Int.gcd n d : Int) := by
    have h := Int.gcd_pos_of_ne_zero_right n (by omega : d ≠ 0)
    omega
  have hgn : (Int.gcd n d : Int) ∣ n := Int.gcd_dvd_left ..
  have hgd : (Int.gcd n d : Int) ∣ d := Int.gcd_dvd_right ..
  have HV : Hid ((lowP n d).1 = n / (Int.gcd n d : Int) ∧ (lowP n d).2 = d / (Int.gcd n d : Int)) := Lib.hid ⟨rfl, rfl⟩
  obtain ⟨g, hg⟩ : ∃ g, (Int.gcd n d : Int) = g := ⟨_, rfl⟩
  rw [hg] at HD hg1 hgn hgd HV
  have t1 : n.tdiv g = n / g := Int.tdiv_eq_ediv_of_dvd hgn
  have t2 : d.tdiv g = d / g := Int.tdiv_eq_ediv_of_dvd hgd
  obtain ⟨n', hn'⟩ := hgn
  obtain ⟨d', hd'⟩ := hgd
  have q1 : n / g = n' := by rw [hn']; exact Int.mul_ediv_cancel_left _ (by omega)
  have q2 : d / g = d' := by rw [hd']; exact Int.mul_ediv_cancel_left _ (by omega)
  have b1 : -2305843009213693952 ≤ n' ∧ n' ≤ 2305843009213693952 := by
    rcases Int.le_total 0 n' with h | h
    · have := Int.mul_le_mul_of_nonneg_right hg1 h; omega
    · have := Int.mul_le_mul_of_nonneg_right hg1 (by omega : 0 ≤ -n')
      have h3 : g * -n' = -(g * n') := Int.mul_neg _ _
      omega
  have b2 : 0 ≤ d' ∧ d' ≤ 2305843009213693952 := by
    have h0 : 0 ≤ d' := by
      rcases Int.le_total 0 d' with h | h
      · exact h
      · have := Int.mul_le_mul_of_nonneg_right hg1 (by omega : 0 ≤ -d')
        have h3 : g * -d' = -(g * d') := Int.mul_neg _ _
        omega
    have := Int.mul_le_mul_of_nonneg_right hg1 h0
    omega
  rw [q1] at t1 HV
  rw [q2] at t2 HV
  have e1 : IntKind.i64.wrap n' = n' := IntWalk.i64_in _ (by omega)
  have e2 : IntKind.i64.wrap d' = d' := IntWalk.i64_in _ (by omega)
  have w1 : wrap64 n' = n' := w64 (by omega)
  have w2 : wrap64 d' = d' := w64 (by omega)
  have hz : ¬ g = 0 := by omega
  have HT1 := Lib.hid t1
  have HT2 := Lib.hid t2
  rw [HV.out.1, HV.out.2]
  clear hn' hd' q1 q2 b1 b2 hg1 hg hn hd
  go_enter Try.func47, Try.ntmps47
  go_wp2_with fail
  refine (HD.out _).mono ?_
  rintro e w1' ⟨rfl, hb1⟩
  have hr0 : w1'.heap[w.heap.size]? = some (.cells #[.int .i64 0, .int .i64 0] 69 (0, 0)) := (hb1.block _ (by simp)).trans (heap_alloc_new _ _)
  have x0 := cellH hr0 0
  have x1 := cellH hr0 1
  have xf := freeH hr0
  simp at x0 x1
  have HR := Lib.hid (heap_same (heap_same hr0 0 (.int .i64 n')) 1 (.int .i64 d'))
  have HB := Lib.hid (((((Below.refl _ w).alloc (Nat.le_refl w.heap.size) (.cells #[.int .i64 0, .int .i64 0] 69)).trans (hb1.mono (by simp))).setCell (p := ⟨w.heap.size, 0, none⟩) (by simp) (.int .i64 n')).setCell (p := ⟨w.heap.size, 1, none⟩) (by simp) (.int .i64 d'))
  clear hb1 hr0
  go_wp2_with fail
  go_region
  go_wp2_with fail
  refine bodyPost_ret (results_cell_row Try.results47 _ _ w.heap.size 69 #[.int .i64 n', .int .i64 d'] (0, 0) _ rfl HR.out Try.underlying69 rfl info_fr) rfl ?_
  exact ⟨rfl, HB.out.drew⟩
end Go.Proofs.Ytnacgogcbbpjmaa

/-! Fractions of the reference: divisor, lowest, less. -/
set_option linter.unusedVariables false
set_option linter.unusedSimpArgs false
namespace Go.Proofs.Ytnacgogcbbpjmaa
open Go Go.RowKit
theorem res_two {P : Program} {fn : Func} {p u : Tmp} {ty : TypeId} (h : fn.results = #[.cell p ty, .tmp u]) (tmps : Array Value) (w : World) (g : Nat) (t : TypeId) (cs : Array Value) (fr : Nat × Nat) (d : TypeDesc)
    (hp : tmps.getD p undef = .pointer (some ⟨g, 0, none⟩)) (hg : w.heap[g]? = some (.cells cs t fr))
    (hu : P.underlying ty = some d) (hd : (match d with | .struct _ | .array _ _ => true | _ => false) = true) (hi : (P.info? ty).map (·.size) = some cs.size) :
    (results fn tmps).run P w = .ok (.tuple #[.agg cs, tmps.getD u undef]) w := by
  have hp' : tmps[p]?.getD undef = .pointer (some ⟨g, 0, none⟩) := by simpa using hp
  rw [results_cell_tmp h]
  simp [hp', asAddr, run_loadVar_row w g t ty cs fr d hg hu hd hi, Result.andThen]
set_option maxRecDepth 100000 in
set_option maxHeartbeats 1000000 in
theorem rdivisor_any (a b : Int) (w : World) (ha : -2305843009213693952 ≤ a ∧ a ≤ 2305843009213693952) (hb : 1 ≤ b ∧ b ≤ 2305843009213693952) :
    Calls Try.prog 114 #[.int .i64 a, .int .i64 b] w fun e w' => e = .returned (.int .i64 (Int.gcd a b : Int)) ∧ Below w.heap.size w w' := by
  have key : ∀ (x : Int), (0 ≤ x ∧ x ≤ 2305843009213693952) → Int.gcd x b = Int.gcd a b → True := fun _ _ _ => trivial
  have hgb : 1 ≤ (Int.gcd a b : Int) := by
    have h := Int.gcd_pos_of_ne_zero_right a (by omega : b ≠ 0)
    omega
  have HGB := Lib.hid hgb
  rcases (by omega : a < 0 ∨ 0 ≤ a) with h0 | h0
  all_goals
    try have e0 : IntKind.i64.wrap (-a) = -a := IntWalk.i64_in _ (by omega)
    try have g0 : ¬ a < 0 := by omega
    have hgx : Hid (Int.gcd (-a) b = Int.gcd a b) := Lib.hid (Int.neg_gcd ..)
    clear key hgb
    go_enter Try.func114, Try.ntmps114
    go_wp2_with fail
    go_loopw [0, 1] (fun x y wr => ∃ (p q : Int), x = .int .i64 p ∧ y = .int .i64 q ∧ Hid (Int.gcd p q = Int.gcd a b) ∧ (0 ≤ p ∧ p ≤ 2305843009213693952) ∧ (0 ≤ q ∧ q ≤ 2305843009213693952) ∧ Hid (Below w.heap.size w wr)) (fun _ y _ => (intOf y).natAbs)
    case atStart => first | exact ⟨a, b, rfl, rfl, Lib.hid rfl, by omega, by omega, Lib.hid (Below.refl _ _)⟩ | exact ⟨-a, b, rfl, rfl, hgx, by omega, by omega, Lib.hid (Below.refl _ _)⟩
    case round =>
      obtain ⟨p, q, rfl, rfl, hG, hp, hq, hB⟩ := hrel
      by_cases hz : q = 0
      · subst hz
        have hN : (Int.gcd a b : Int) = max p 1 := by
          have h1 := hG.out
          rw [Int.gcd_zero_right] at h1
          have h2 := HGB.out
          rw [← h1] at h2 ⊢
          omega
        have HN := Lib.hid hN
        clear hN
        go_wp2_with fail
        go_ret
        exact ⟨ret_int' HN.out.symm, hB.out⟩
      · have gq : (0 : Int) < q := by omega
        have hr : (p.tmod q).natAbs < q.natAbs := by rw [Int.natAbs_tmod]; exact Nat.mod_lt _ (by omega)
        have hr0 : 0 ≤ p.tmod q := Int.tmod_nonneg _ hp.1
        have e1 : IntKind.i64.wrap (p.tmod q) = p.tmod q := IntWalk.i64_in _ (by omega)
        have w1 : wrap64 (p.tmod q) = p.tmod q := w64 (by omega)
        have HG2 := Lib.hid ((gcd_step p q).trans hG.out)
        have HM := Lib.hid hr
        have HR0 := Lib.hid (⟨hr0, by omega⟩ : 0 ≤ p.tmod q ∧ p.tmod q ≤ 2305843009213693952)
        have ee : p.tmod q = p % q := Int.tmod_eq_emod_of_nonneg hp.1
        have HR := Lib.hid (ee ▸ HR0.out : 0 ≤ p % q ∧ p % q ≤ 2305843009213693952)
        have HG3 := Lib.hid (ee ▸ HG2.out : Int.gcd q (p % q) = Int.gcd a b)
        have HM3 := Lib.hid (ee ▸ HM.out : (p % q).natAbs < q.natAbs)
        clear ee HR0 HG2 HM
        clear hr hr0
        go_wp2_with fail
        go_quiet (fail)
        go_wp2_with fail
        go_roundw
        case rel => exact ⟨q, p % q, rfl, rfl, HG3, hq, HR.out, Lib.hid (below_drewN hB.out _)⟩
        case measure =>
          have hm := HM3.out
          simp only [intOf]
          exact hm
set_option maxRecDepth 100000 in
set_option maxHeartbeats 1000000 in
theorem rlowest_any (n d : Int) (w : World) (hn : -2305843009213693952 ≤ n ∧ n ≤ 2305843009213693952) (hd : 1 ≤ d ∧ d ≤ 2305843009213693952) :
    Calls Try.prog 113 #[.int .i64 n, .int .i64 d] w fun e w' => e = .returned (.agg #[.int .i64 (lowP n d).1, .int .i64 (lowP n d).2]) ∧ Below w.heap.size w w' := by
  have HD := Lib.hid (fun w' => rdivisor_any n d w' hn hd)
  have hg1 : 1 ≤ (Int.gcd n d : Int) := by
    have h := Int.gcd_pos_of_ne_zero_right n (by omega : d ≠ 0)
    omega
  have hgn : (Int.gcd n d : Int) ∣ n := Int.gcd_dvd_left ..
  have hgd : (Int.gcd n d : Int) ∣ d := Int.gcd_dvd_right ..
  have HV : Hid ((lowP n d).1 = n / (Int.gcd n d : Int) ∧ (lowP n d).2 = d / (Int.gcd n d : Int)) := Lib.hid ⟨rfl, rfl⟩
  obtain ⟨g, hg⟩ : ∃ g, (Int.gcd n d : Int) = g := ⟨_, rfl⟩
  rw [hg] at HD hg1 hgn hgd HV
  have t1 : n.tdiv g = n / g := Int.tdiv_eq_ediv_of_dvd hgn
  have t2 : d.tdiv g = d / g := Int.tdiv_eq_ediv_of_dvd hgd
  obtain ⟨n', hn'⟩ := hgn
  obtain ⟨d', hd'⟩ := hgd
  have q1 : n / g = n' := by rw [hn']; exact Int.mul_ediv_cancel_left _ (by omega)
  have q2 : d / g = d' := by rw [hd']; exact Int.mul_ediv_cancel_left _ (by omega)
  have b1 : -2305843009213693952 ≤ n' ∧ n' ≤ 2305843009213693952 := by
    rcases Int.le_total 0 n' with h | h
    · have := Int.mul_le_mul_of_nonneg_right hg1 h; omega
    · have := Int.mul_le_mul_of_nonneg_right hg1 (by omega : 0 ≤ -n')
      have h3 : g * -n' = -(g * n') := Int.mul_neg _ _
      omega
  have b2 : 0 ≤ d' ∧ d' ≤ 2305843009213693952 := by
    have h0 : 0 ≤ d' := by
      rcases Int.le_total 0 d' with h | h
      · exact h
      · have := Int.mul_le_mul_of_nonneg_right hg1 (by omega : 0 ≤ -d')
        have h3 : g * -d' = -(g * d') := Int.mul_neg _ _
        omega
    have := Int.mul_le_mul_of_nonneg_right hg1 h0
    omega
  rw [q1] at t1 HV
  rw [q2] at t2 HV
  have e1 : IntKind.i64.wrap n' = n' := IntWalk.i64_in _ (by omega)
  have e2 : IntKind.i64.wrap d' = d' := IntWalk.i64_in _ (by omega)
  have w1 : wrap64 n' = n' := w64 (by omega)
  have w2 : wrap64 d' = d' := w64 (by omega)
  have hz : ¬ g = 0 := by omega
  have HT1 := Lib.hid t1
  have HT2 := Lib.hid t2
  rw [HV.out.1, HV.out.2]
  clear hn' hd' q1 q2 b1 b2 hg1 hg hn hd
  go_enter Try.func113, Try.ntmps113
  go_wp2_with fail
  refine (HD.out _).mono ?_
  rintro e w1' ⟨rfl, hb1⟩
  have hr0 : w1'.heap[w.heap.size]? = some (.cells #[.int .i64 0, .int .i64 0] 69 (0, 0)) := (hb1.block _ (by simp)).trans (heap_alloc_new _ _)
  have x0 := cellH hr0 0
  have x1 := cellH hr0 1
  have xf := freeH hr0
  simp at x0 x1
  have HR := Lib.hid (heap_same (heap_same hr0 0 (.int .i64 n')) 1 (.int .i64 d'))
  have HB := Lib.hid (((((Below.refl _ w).alloc (Nat.le_refl w.heap.size) (.cells #[.int .i64 0, .int .i64 0] 69)).trans (hb1.mono (by simp))).setCell (p := ⟨w.heap.size, 0, none⟩) (by simp) (.int .i64 n')).setCell (p := ⟨w.heap.size, 1, none⟩) (by simp) (.int .i64 d'))
  clear hb1 hr0
  go_wp2_with fail
  go_region
  go_wp2_with fail
  refine bodyPost_ret (results_cell_row Try.results113 _ _ w.heap.size 69 #[.int .i64 n', .int .i64 d'] (0, 0) _ rfl HR.out Try.underlying69 rfl info_fr) rfl ?_
  exact ⟨rfl, HB.out.drew⟩
set_option maxRecDepth 100000 in
theorem rless_any (a b c d : Int) (w : World) (e1 : IntKind.i64.wrap (a * d) = a * d) (e2 : IntKind.i64.wrap (c * b) = c * b) : Calls Try.prog 109 #[.agg #[.int .i64 a, .int .i64 b], .agg #[.int .i64 c, .int .i64 d]] w fun e w' => e = .returned (.bool (decide (a * d < c * b))) ∧ Below w.heap.size w w' := by
  have HB := Lib.hid (((Below.refl _ w).alloc (Nat.le_refl w.heap.size) (.cells #[.int .i64 a, .int .i64 b] 69)).alloc (by simp) (.cells #[.int .i64 c, .int .i64 d] 69))
  go_enter Try.func109, Try.ntmps109
  go_wp2_with fail
  go_ret
  exact ⟨rfl, HB.out⟩
end Go.Proofs.Ytnacgogcbbpjmaa
