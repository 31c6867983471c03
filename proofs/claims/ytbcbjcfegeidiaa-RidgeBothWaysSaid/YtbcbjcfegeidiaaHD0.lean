/- Fractions of both packages. -/
import Derived.Test.YtbcbjcfegeidiaaHB6
import Derived.Test.YtbcbjcfegeidiaaHC0
set_option linter.unusedVariables false
set_option linter.unusedSimpArgs false
namespace Go.Proofs.Ytbcbjcfegeidiaa
open Go Go.RowKit

def frB (n d : Int) : Bool := wiB n (-1099511627776) 1099511627776 && wiB d 1 1048576
theorem frB_ok {n d : Int} (h : frB n d = true) : (-1099511627776 ≤ n ∧ n ≤ 1099511627776) ∧ 1 ≤ d ∧ d ≤ 1048576 := by
  unfold frB wiB at h
  simp only [Bool.and_eq_true, decide_eq_true_eq] at h
  exact ⟨h.1, h.2⟩
theorem validFraction_any (n d : Int) (w : World) : Calls Try.prog 75 #[.agg #[.int .i64 n, .int .i64 d]] w fun e w' => e = .returned (.bool (frB n d)) ∧ Below w.heap.size w w' := by
  have HB := Lib.hid ((Below.refl _ w).alloc (Nat.le_refl w.heap.size) (.cells #[.int .i64 n, .int .i64 d] 52))
  have H1 := Lib.hid (within_any n (-1099511627776) 1099511627776)
  have H2 := Lib.hid (within_any d 1 1048576)
  have HV : Hid (frB n d = (wiB n (-1099511627776) 1099511627776 && wiB d 1 1048576)) := Lib.hid rfl
  cases h1 : wiB n (-1099511627776) 1099511627776
  · rw [h1] at H1 HV
    clear h1
    go_enter Try.func75, Try.ntmps75
    go_wp2_with fail
    refine (H1.out _).mono ?_
    rintro e w1 ⟨rfl, rfl⟩
    go_wp2_with fail
    go_ret
    exact ⟨ret_bool' (by rw [HV.out]; rfl), HB.out⟩
  · rw [h1] at H1 HV
    clear h1
    go_enter Try.func75, Try.ntmps75
    go_wp2_with fail
    refine (H1.out _).mono ?_
    rintro e w1 ⟨rfl, rfl⟩
    go_wp2_with fail
    refine (H2.out _).mono ?_
    rintro e w1 ⟨rfl, rfl⟩
    go_wp2_with fail
    go_ret
    exact ⟨ret_bool' (by rw [HV.out]; simp), HB.out⟩
theorem rfraction_any (n d : Int) (w : World) : Calls Try.prog 76 #[.agg #[.int .i64 n, .int .i64 d]] w fun e w' => e = .returned (.bool (frB n d)) ∧ Below w.heap.size w w' := by
  have HB := Lib.hid ((Below.refl _ w).alloc (Nat.le_refl w.heap.size) (.cells #[.int .i64 n, .int .i64 d] 52))
  have HV : Hid (frB n d = (wiB n (-1099511627776) 1099511627776 && wiB d 1 1048576)) := Lib.hid rfl
  rcases (by omega : d < 1 ∨ (1 ≤ d ∧ 1048576 < d) ∨ (1 ≤ d ∧ d ≤ 1048576 ∧ n < -1099511627776) ∨ (1 ≤ d ∧ d ≤ 1048576 ∧ -1099511627776 ≤ n)) with h1 | ⟨h1, h2⟩ | ⟨h1, h2, h3⟩ | ⟨h1, h2, h3⟩
  all_goals
    try have g1 : decide (1 ≤ d) = false := decide_eq_false (by omega)
    try have g2 : decide (d ≤ 1048576) = false := decide_eq_false (by omega)
    try have g3 : decide (-1099511627776 ≤ n) = false := decide_eq_false (by omega)
    go_enter Try.func76, Try.ntmps76
    go_wp2_with fail
    go_ret
    exact ⟨by rw [HV.out]; unfold wiB; simp [*] <;> omega, HB.out⟩
def smO (n d : Int) : Value := if frB n d = true then .tuple #[.agg #[.int .i64 (lowP n d).1, .int .i64 (lowP n d).2], .int .i64 0] else .tuple #[.agg #[.int .i64 0, .int .i64 0], .int .i64 1]
theorem res_two {P : Program} {fn : Func} {p u : Tmp} {ty : TypeId} (h : fn.results = #[.cell p ty, .tmp u]) (tmps : Array Value) (w : World) (g : Nat) (t : TypeId) (cs : Array Value) (fr : Nat × Nat) (d : TypeDesc)
    (hp : tmps.getD p undef = .pointer (some ⟨g, 0, none⟩)) (hg : w.heap[g]? = some (.cells cs t fr))
    (hu : P.underlying ty = some d) (hd : (match d with | .struct _ | .array _ _ => true | _ => false) = true) (hi : (P.info? ty).map (·.size) = some cs.size) :
    (results fn tmps).run P w = .ok (.tuple #[.agg cs, tmps.getD u undef]) w := by
  have hp' : tmps[p]?.getD undef = .pointer (some ⟨g, 0, none⟩) := by simpa using hp
  rw [results_cell_tmp h]
  simp [hp', asAddr, run_loadVar_row w g t ty cs fr d hg hu hd hi, Result.andThen]
theorem Smallest_any (n d : Int) (w : World) : Calls Try.prog 39 #[.agg #[.int .i64 n, .int .i64 d]] w fun e w' => e = .returned (smO n d) ∧ Below w.heap.size w w' := by
  have H1 := Lib.hid (fun w' => validFraction_any n d w')
  have HS : Hid (smO n d = if frB n d = true then .tuple #[.agg #[.int .i64 (lowP n d).1, .int .i64 (lowP n d).2], .int .i64 0] else .tuple #[.agg #[.int .i64 0, .int .i64 0], .int .i64 1]) := Lib.hid rfl
  have HB0 := Lib.hid (((Below.refl _ w).alloc (Nat.le_refl w.heap.size) (.cells #[.int .i64 n, .int .i64 d] 52)).alloc (by simp) (.cells #[.int .i64 0, .int .i64 0] 52))
  have HG0 := Lib.hid ((gNe (w.alloc (.cells #[.int .i64 n, .int .i64 d] 52)) (.cells #[.int .i64 0, .int .i64 0] 52) w.heap.size (by simp)).trans (heap_alloc_new _ _))
  have HG1 : Hid (((w.alloc (.cells #[.int .i64 n, .int .i64 d] 52)).alloc (.cells #[.int .i64 0, .int .i64 0] 52)).heap[w.heap.size + 1]? = some (.cells #[.int .i64 0, .int .i64 0] 52 (0, 0))) := Lib.hid (gAt _ _ _ (by simp))
  obtain ⟨W1, hW1⟩ : ∃ W1, (w.alloc (.cells #[.int .i64 n, .int .i64 d] 52)).alloc (.cells #[.int .i64 0, .int .i64 0] 52) = W1 := ⟨_, rfl⟩
  rw [hW1] at HB0 HG0 HG1
  have HW1 := Lib.hid hW1
  clear hW1
  go_enter Try.func39, Try.ntmps39
  go_wp2_with fail
  rw [HW1.out]
  have p0 := cellH HG0.out 0
  have p1 := cellH HG0.out 1
  simp at p0 p1
  go_wp2_with fail
  refine (H1.out _).mono ?_
  rintro e w2 ⟨rfl, hb2⟩
  have hg0 := (hb2.block _ (Array.getElem?_eq_some_iff.1 HG0.out).1).trans HG0.out
  have hg1 := (hb2.block _ (Array.getElem?_eq_some_iff.1 HG1.out).1).trans HG1.out
  have HB2 := Lib.hid (HB0.out.trans (hb2.mono HB0.out.size))
  have HR2 := Lib.hid hg1
  clear p0 p1 hb2
  have p0 := cellH hg0 0
  have p1 := cellH hg0 1
  have r0 := cellH hg1 0
  have r1 := cellH hg1 1
  have rf := freeH hg1
  simp at p0 p1 r0 r1
  cases hq : frB n d
  · rw [hq] at HS
    have HN := Lib.hid (heap_same (heap_same hg1 0 (.int .i64 0)) 1 (.int .i64 0))
    have HBB := Lib.hid ((HB2.out.setCell (p := ⟨w.heap.size + 1, 0, none⟩) (by simp) (.int .i64 0)).setCell (p := ⟨w.heap.size + 1, 1, none⟩) (by simp) (.int .i64 0))
    clear hq hg0 hg1
    go_wp2_with fail
    refine bodyPost_ret (res_two Try.results39 _ _ (w.heap.size + 1) 52 #[.int .i64 0, .int .i64 0] (0, 0) _ rfl HN.out Try.underlying52 rfl info_fr) rfl ?_
    exact ⟨by rw [HS.out]; rfl, HBB.out⟩
  · rw [hq] at HS
    obtain ⟨f1, f2⟩ := frB_ok hq
    have HL := Lib.hid (fun w' => lowest_any n d w' (by omega) (by omega))
    obtain ⟨x, y, hxy⟩ : ∃ x y, lowP n d = (x, y) := ⟨_, _, rfl⟩
    rw [hxy] at HS HL
    clear hq hg0 hg1 f1 f2 hxy r0 r1 rf
    go_wp2_with fail
    refine (HL.out _).mono ?_
    rintro e w3 ⟨rfl, hb3⟩
    have hg1 := (hb3.block _ (Array.getElem?_eq_some_iff.1 HR2.out).1).trans HR2.out
    have HB3 := Lib.hid (HB2.out.trans (hb3.mono HB2.out.size))
    have r0 := cellH hg1 0
    have r1 := cellH hg1 1
    have rf := freeH hg1
    simp at r0 r1
    have HN := Lib.hid (heap_same (heap_same hg1 0 (.int .i64 x)) 1 (.int .i64 y))
    have HBB := Lib.hid ((HB3.out.setCell (p := ⟨w.heap.size + 1, 0, none⟩) (by simp) (.int .i64 x)).setCell (p := ⟨w.heap.size + 1, 1, none⟩) (by simp) (.int .i64 y))
    clear hb3 hg1
    go_wp2_with fail
    refine bodyPost_ret (res_two Try.results39 _ _ (w.heap.size + 1) 52 #[.int .i64 x, .int .i64 y] (0, 0) _ rfl HN.out Try.underlying52 rfl info_fr) rfl ?_
    exact ⟨by rw [HS.out]; rfl, HBB.out⟩
set_option maxRecDepth 100000 in
set_option maxHeartbeats 1000000 in
theorem rdivisor_any (a b : Int) (w : World) (ha : -2305843009213693952 ≤ a ∧ a ≤ 2305843009213693952) (hb : 1 ≤ b ∧ b ≤ 2305843009213693952) :
    Calls Try.prog 93 #[.int .i64 a, .int .i64 b] w fun e w' => e = .returned (.int .i64 (Int.gcd a b : Int)) ∧ Below w.heap.size w w' := by
  have key : ∀ (x : Int), (0 ≤ x ∧ x ≤ 2305843009213693952) → Int.gcd x b = Int.gcd a b → True := fun _ _ _ => trivial
  have hgb : 1 ≤ (Int.gcd a b : Int) := by
    have h := Int.gcd_pos_of_ne_zero_right a (by omega : b ≠ 0)
    omega
  have HGB := Lib.hid hgb
  rcases (by omega : a < 0 ∨ 0 ≤ a) with h0 | h0
  all_goals
    try have e0 : IntKind.i64.wrap (-a) = -a := IntWalk.i64_in _ (by omega)
    try have g0 : ¬ a < 0 := by omega
    have hgx : Hid (Int.gcd (-a) b = Int.gcd a b) := Lib.hid (Int.neg_gcd ..)
    clear key hgb
    go_enter Try.func93, Try.ntmps93
    go_wp2_with fail
    go_loopw [0, 1] (fun x y wr => ∃ (p q : Int), x = .int .i64 p ∧ y = .int .i64 q ∧ Hid (Int.gcd p q = Int.gcd a b) ∧ (0 ≤ p ∧ p ≤ 2305843009213693952) ∧ (0 ≤ q ∧ q ≤ 2305843009213693952) ∧ Hid (Below w.heap.size w wr)) (fun _ y _ => (intOf y).natAbs)
    case atStart => first | exact ⟨a, b, rfl, rfl, Lib.hid rfl, by omega, by omega, Lib.hid (Below.refl _ _)⟩ | exact ⟨-a, b, rfl, rfl, hgx, by omega, by omega, Lib.hid (Below.refl _ _)⟩
    case round =>
      obtain ⟨p, q, rfl, rfl, hG, hp, hq, hB⟩ := hrel
      by_cases hz : q = 0
      · subst hz
        have hN : (Int.gcd a b : Int) = max p 1 := by
          have h1 := hG.out
          rw [Int.gcd_zero_right] at h1
          have h2 := HGB.out
          rw [← h1] at h2 ⊢
          omega
        have HN := Lib.hid hN
        clear hN
        go_wp2_with fail
        go_ret
        exact ⟨ret_int' HN.out.symm, hB.out⟩
      · have gq : (0 : Int) < q := by omega
        have hr : (p.tmod q).natAbs < q.natAbs := by rw [Int.natAbs_tmod]; exact Nat.mod_lt _ (by omega)
        have hr0 : 0 ≤ p.tmod q := Int.tmod_nonneg _ hp.1
        have e1 : IntKind.i64.wrap (p.tmod q) = p.tmod q := IntWalk.i64_in _ (by omega)
        have w1 : wrap64 (p.tmod q) = p.tmod q := w64 (by omega)
        have HG2 := Lib.hid ((gcd_step p q).trans hG.out)
        have HM := Lib.hid hr
        have HR0 := Lib.hid (⟨hr0, by omega⟩ : 0 ≤ p.tmod q ∧ p.tmod q ≤ 2305843009213693952)
        have ee : p.tmod q = p % q := Int.tmod_eq_emod_of_nonneg hp.1
        have HR := Lib.hid (ee ▸ HR0.out : 0 ≤ p % q ∧ p % q ≤ 2305843009213693952)
        have HG3 := Lib.hid (ee ▸ HG2.out : Int.gcd q (p % q) = Int.gcd a b)
        have HM3 := Lib.hid (ee ▸ HM.out : (p % q).natAbs < q.natAbs)
        clear ee HR0 HG2 HM
        clear hr hr0
        go_wp2_with fail
        go_quiet (fail)
        go_wp2_with fail
        go_roundw
        case rel => exact ⟨q, p % q, rfl, rfl, HG3, hq, HR.out, Lib.hid (below_drewN hB.out _)⟩
        case measure =>
          have hm := HM3.out
          simp only [intOf]
          exact hm
set_option maxRecDepth 100000 in
set_option maxHeartbeats 1000000 in
theorem rlowest_any (n d : Int) (w : World) (hn : -2305843009213693952 ≤ n ∧ n ≤ 2305843009213693952) (hd : 1 ≤ d ∧ d ≤ 2305843009213693952) :
    Calls Try.prog 77 #[.int .i64 n, .int .i64 d] w fun e w' => e = .returned (.agg #[.int .i64 (lowP n d).1, .int .i64 (lowP n d).2]) ∧ Below w.heap.size w w' := by
  have HD := Lib.hid (fun w' => rdivisor_any n d w' hn hd)
  have hg1 : 1 ≤ (Int.gcd n d : Int) := by
    have h := Int.gcd_pos_of_ne_zero_right n (by omega : d ≠ 0)
    omega
  have hgn : (Int.gcd n d : Int) ∣ n := Int.gcd_dvd_left ..
  have hgd : (Int.gcd n d : Int) ∣ d := Int.gcd_dvd_right ..
  have HV : Hid ((lowP n d).1 = n / (Int.gcd n d : Int) ∧ (lowP n d).2 = d / (Int.gcd n d : Int)) := Lib.hid ⟨rfl, rfl⟩
  obtain ⟨g, hg⟩ : ∃ g, (Int.gcd n d : Int) = g := ⟨_, rfl⟩
  rw [hg] at HD hg1 hgn hgd HV
  have t1 : n.tdiv g = n / g := Int.tdiv_eq_ediv_of_dvd hgn
  have t2 : d.tdiv g = d / g := Int.tdiv_eq_ediv_of_dvd hgd
  obtain ⟨n', hn'⟩ := hgn
  obtain ⟨d', hd'⟩ := hgd
  have q1 : n / g = n' := by rw [hn']; exact Int.mul_ediv_cancel_left _ (by omega)
  have q2 : d / g = d' := by rw [hd']; exact Int.mul_ediv_cancel_left _ (by omega)
  have b1 : -2305843009213693952 ≤ n' ∧ n' ≤ 2305843009213693952 := by
    rcases Int.le_total 0 n' with h | h
    · have := Int.mul_le_mul_of_nonneg_right hg1 h; omega
    · have := Int.mul_le_mul_of_nonneg_right hg1 (by omega : 0 ≤ -n')
      have h3 : g * -n' = -(g * n') := Int.mul_neg _ _
      omega
  have b2 : 0 ≤ d' ∧ d' ≤ 2305843009213693952 := by
    have h0 : 0 ≤ d' := by
      rcases Int.le_total 0 d' with h | h
      · exact h
      · have := Int.mul_le_mul_of_nonneg_right hg1 (by omega : 0 ≤ -d')
        have h3 : g * -d' = -(g * d') := Int.mul_neg _ _
        omega
    have := Int.mul_le_mul_of_nonneg_right hg1 h0
    omega
  rw [q1] at t1 HV
  rw [q2] at t2 HV
  have e1 : IntKind.i64.wrap n' = n' := IntWalk.i64_in _ (by omega)
  have e2 : IntKind.i64.wrap d' = d' := IntWalk.i64_in _ (by omega)
  have w1 : wrap64 n' = n' := w64 (by omega)
  have w2 : wrap64 d' = d' := w64 (by omega)
  have hz : ¬ g = 0 := by omega
  have HT1 := Lib.hid t1
  have HT2 := Lib.hid t2
  rw [HV.out.1, HV.out.2]
  clear hn' hd' q1 q2 b1 b2 hg1 hg hn hd
  go_enter Try.func77, Try.ntmps77
  go_wp2_with fail
  refine (HD.out _).mono ?_
  rintro e w1' ⟨rfl, hb1⟩
  have hr0 : w1'.heap[w.heap.size]? = some (.cells #[.int .i64 0, .int .i64 0] 52 (0, 0)) := (hb1.block _ (by simp)).trans (heap_alloc_new _ _)
  have x0 := cellH hr0 0
  have x1 := cellH hr0 1
  have xf := freeH hr0
  simp at x0 x1
  have HR := Lib.hid (heap_same (heap_same hr0 0 (.int .i64 n')) 1 (.int .i64 d'))
  have HB := Lib.hid (((((Below.refl _ w).alloc (Nat.le_refl w.heap.size) (.cells #[.int .i64 0, .int .i64 0] 52)).trans (hb1.mono (by simp))).setCell (p := ⟨w.heap.size, 0, none⟩) (by simp) (.int .i64 n')).setCell (p := ⟨w.heap.size, 1, none⟩) (by simp) (.int .i64 d'))
  clear hb1 hr0
  go_wp2_with fail
  go_region
  go_wp2_with fail
  refine bodyPost_ret (results_cell_row Try.results77 _ _ w.heap.size 52 #[.int .i64 n', .int .i64 d'] (0, 0) _ rfl HR.out Try.underlying52 rfl info_fr) rfl ?_
  exact ⟨rfl, HB.out.drew⟩
theorem rSmallest_any (n d : Int) (w : World) : Calls Try.prog 40 #[.agg #[.int .i64 n, .int .i64 d]] w fun e w' => e = .returned (smO n d) ∧ Below w.heap.size w w' := by
  have H1 := Lib.hid (fun w' => rfraction_any n d w')
  have HS : Hid (smO n d = if frB n d = true then .tuple #[.agg #[.int .i64 (lowP n d).1, .int .i64 (lowP n d).2], .int .i64 0] else .tuple #[.agg #[.int .i64 0, .int .i64 0], .int .i64 1]) := Lib.hid rfl
  have HB0 := Lib.hid (((Below.refl _ w).alloc (Nat.le_refl w.heap.size) (.cells #[.int .i64 n, .int .i64 d] 52)).alloc (by simp) (.cells #[.int .i64 0, .int .i64 0] 52))
  have HG0 := Lib.hid ((gNe (w.alloc (.cells #[.int .i64 n, .int .i64 d] 52)) (.cells #[.int .i64 0, .int .i64 0] 52) w.heap.size (by simp)).trans (heap_alloc_new _ _))
  have HG1 : Hid (((w.alloc (.cells #[.int .i64 n, .int .i64 d] 52)).alloc (.cells #[.int .i64 0, .int .i64 0] 52)).heap[w.heap.size + 1]? = some (.cells #[.int .i64 0, .int .i64 0] 52 (0, 0))) := Lib.hid (gAt _ _ _ (by simp))
  obtain ⟨W1, hW1⟩ : ∃ W1, (w.alloc (.cells #[.int .i64 n, .int .i64 d] 52)).alloc (.cells #[.int .i64 0, .int .i64 0] 52) = W1 := ⟨_, rfl⟩
  rw [hW1] at HB0 HG0 HG1
  have HW1 := Lib.hid hW1
  clear hW1
  go_enter Try.func40, Try.ntmps40
  go_wp2_with fail
  rw [HW1.out]
  have p0 := cellH HG0.out 0
  have p1 := cellH HG0.out 1
  simp at p0 p1
  go_wp2_with fail
  refine (H1.out _).mono ?_
  rintro e w2 ⟨rfl, hb2⟩
  have hg0 := (hb2.block _ (Array.getElem?_eq_some_iff.1 HG0.out).1).trans HG0.out
  have hg1 := (hb2.block _ (Array.getElem?_eq_some_iff.1 HG1.out).1).trans HG1.out
  have HB2 := Lib.hid (HB0.out.trans (hb2.mono HB0.out.size))
  have HR2 := Lib.hid hg1
  clear p0 p1 hb2
  have p0 := cellH hg0 0
  have p1 := cellH hg0 1
  have r0 := cellH hg1 0
  have r1 := cellH hg1 1
  have rf := freeH hg1
  simp at p0 p1 r0 r1
  cases hq : frB n d
  · rw [hq] at HS
    have HN := Lib.hid (heap_same (heap_same hg1 0 (.int .i64 0)) 1 (.int .i64 0))
    have HBB := Lib.hid ((HB2.out.setCell (p := ⟨w.heap.size + 1, 0, none⟩) (by simp) (.int .i64 0)).setCell (p := ⟨w.heap.size + 1, 1, none⟩) (by simp) (.int .i64 0))
    clear hq hg0 hg1
    go_wp2_with fail
    refine bodyPost_ret (res_two Try.results40 _ _ (w.heap.size + 1) 52 #[.int .i64 0, .int .i64 0] (0, 0) _ rfl HN.out Try.underlying52 rfl info_fr) rfl ?_
    exact ⟨by rw [HS.out]; rfl, HBB.out⟩
  · rw [hq] at HS
    obtain ⟨f1, f2⟩ := frB_ok hq
    have HL := Lib.hid (fun w' => rlowest_any n d w' (by omega) (by omega))
    obtain ⟨x, y, hxy⟩ : ∃ x y, lowP n d = (x, y) := ⟨_, _, rfl⟩
    rw [hxy] at HS HL
    clear hq hg0 hg1 f1 f2 hxy r0 r1 rf
    go_wp2_with fail
    refine (HL.out _).mono ?_
    rintro e w3 ⟨rfl, hb3⟩
    have hg1 := (hb3.block _ (Array.getElem?_eq_some_iff.1 HR2.out).1).trans HR2.out
    have HB3 := Lib.hid (HB2.out.trans (hb3.mono HB2.out.size))
    have r0 := cellH hg1 0
    have r1 := cellH hg1 1
    have rf := freeH hg1
    simp at r0 r1
    have HN := Lib.hid (heap_same (heap_same hg1 0 (.int .i64 x)) 1 (.int .i64 y))
    have HBB := Lib.hid ((HB3.out.setCell (p := ⟨w.heap.size + 1, 0, none⟩) (by simp) (.int .i64 x)).setCell (p := ⟨w.heap.size + 1, 1, none⟩) (by simp) (.int .i64 y))
    clear hb3 hg1
    go_wp2_with fail
    refine bodyPost_ret (res_two Try.results40 _ _ (w.heap.size + 1) 52 #[.int .i64 x, .int .i64 y] (0, 0) _ rfl HN.out Try.underlying52 rfl info_fr) rfl ?_
    exact ⟨by rw [HS.out]; rfl, HBB.out⟩
/-- The order of two fractions, and the error. -/
def cpO (a b c d : Int) : Value := if frB a b = true ∧ frB c d = true then .tuple #[.int .i64 (cmpJ (a * d) (c * b)), .int .i64 0] else .tuple #[.int .i64 0, .int .i64 1]
theorem prod_bd {a b : Int} (h : -1099511627776 ≤ a ∧ a ≤ 1099511627776) (k : 1 ≤ b ∧ b ≤ 1048576) : -1152921504606846976 ≤ a * b ∧ a * b ≤ 1152921504606846976 := by
  rcases Int.le_total 0 a with h0 | h0
  · have h1 : 0 ≤ a * b := Int.mul_nonneg h0 (by omega)
    have h2 : a * b ≤ 1099511627776 * 1048576 := Int.mul_le_mul h.2 k.2 (by omega) (by omega)
    omega
  · have h1 : 0 ≤ -a * b := Int.mul_nonneg (by omega) (by omega)
    have h2 : -a * b ≤ 1099511627776 * 1048576 := Int.mul_le_mul (by omega) k.2 (by omega) (by omega)
    have h3 : -a * b = -(a * b) := Int.neg_mul _ _
    omega
set_option maxRecDepth 100000 in
set_option maxHeartbeats 2000000 in
theorem Compare_any (a b c d : Int) (w : World) : Calls Try.prog 41 #[.agg #[.int .i64 a, .int .i64 b], .agg #[.int .i64 c, .int .i64 d]] w fun e w' => e = .returned (cpO a b c d) ∧ Below w.heap.size w w' := by
  have H1 := Lib.hid (fun w' => validFraction_any a b w')
  have H2 := Lib.hid (fun w' => validFraction_any c d w')
  have HS : Hid (cpO a b c d = if frB a b = true ∧ frB c d = true then .tuple #[.int .i64 (cmpJ (a * d) (c * b)), .int .i64 0] else .tuple #[.int .i64 0, .int .i64 1]) := Lib.hid rfl
  have HB0 := Lib.hid (((Below.refl _ w).alloc (Nat.le_refl w.heap.size) (.cells #[.int .i64 a, .int .i64 b] 52)).alloc (by simp) (.cells #[.int .i64 c, .int .i64 d] 52))
  have HG0 := Lib.hid ((gNe (w.alloc (.cells #[.int .i64 a, .int .i64 b] 52)) (.cells #[.int .i64 c, .int .i64 d] 52) w.heap.size (by simp)).trans (heap_alloc_new _ _))
  have HG1 : Hid (((w.alloc (.cells #[.int .i64 a, .int .i64 b] 52)).alloc (.cells #[.int .i64 c, .int .i64 d] 52)).heap[w.heap.size + 1]? = some (.cells #[.int .i64 c, .int .i64 d] 52 (0, 0))) := Lib.hid (gAt _ _ _ (by simp))
  obtain ⟨W1, hW1⟩ : ∃ W1, (w.alloc (.cells #[.int .i64 a, .int .i64 b] 52)).alloc (.cells #[.int .i64 c, .int .i64 d] 52) = W1 := ⟨_, rfl⟩
  rw [hW1] at HB0 HG0 HG1
  have HW1 := Lib.hid hW1
  have HRD : Hid (∀ W', Below W1.heap.size W1 W' → W'.cell? ⟨w.heap.size, 0, none⟩ = some (.int .i64 a) ∧ W'.cell? ⟨w.heap.size, 1, none⟩ = some (.int .i64 b) ∧ W'.cell? ⟨w.heap.size + 1, 0, none⟩ = some (.int .i64 c) ∧ W'.cell? ⟨w.heap.size + 1, 1, none⟩ = some (.int .i64 d)) := Lib.hid (fun W' h => by
    have m0 := (h.block _ (Array.getElem?_eq_some_iff.1 HG0.out).1).trans HG0.out
    have m1 := (h.block _ (Array.getElem?_eq_some_iff.1 HG1.out).1).trans HG1.out
    exact ⟨cellH m0 0, cellH m0 1, cellH m1 0, cellH m1 1⟩)
  clear hW1
  cases q1 : frB a b
  · rw [q1] at H1 HS
    clear q1
    go_enter Try.func41, Try.ntmps41
    go_wp2_with fail
    rw [HW1.out]
    obtain ⟨p0, p1, p2, p3⟩ := HRD.out W1 (Below.refl _ _)
    go_wp2_with fail
    refine (H1.out _).mono ?_
    rintro e w2 ⟨rfl, hb2⟩
    have HB2 := Lib.hid (HB0.out.trans (hb2.mono HB0.out.size))
    clear hb2 p0 p1 p2 p3
    go_wp2_with fail
    go_ret2
    exact ⟨by rw [HS.out, if_neg (by simp)]; rfl, HB2.out⟩
  rw [q1] at H1 HS
  cases q2 : frB c d
  · rw [q2] at H2 HS
    clear q1 q2
    go_enter Try.func41, Try.ntmps41
    go_wp2_with fail
    rw [HW1.out]
    obtain ⟨p0, p1, p2, p3⟩ := HRD.out W1 (Below.refl _ _)
    go_wp2_with fail
    refine (H1.out _).mono ?_
    rintro e w2 ⟨rfl, hb2⟩
    have HD2 := Lib.hid hb2
    have HB2 := Lib.hid (HB0.out.trans (hb2.mono HB0.out.size))
    clear hb2 p0 p1 p2 p3
    obtain ⟨p0, p1, p2, p3⟩ := HRD.out w2 HD2.out
    go_wp2_with fail
    refine (H2.out _).mono ?_
    rintro e w3 ⟨rfl, hb3⟩
    have HB3 := Lib.hid (HB2.out.trans (hb3.mono HB2.out.size))
    clear hb3 p0 p1 p2 p3
    go_wp2_with fail
    go_ret2
    exact ⟨by rw [HS.out, if_neg (by simp)]; rfl, HB3.out⟩
  rw [q2] at H2 HS
  obtain ⟨f1, f2⟩ := frB_ok q1
  obtain ⟨f3, f4⟩ := frB_ok q2
  obtain ⟨b1, b2⟩ := prod_bd f1 f4
  obtain ⟨b3, b4⟩ := prod_bd f3 f2
  rw [if_pos ⟨rfl, rfl⟩] at HS
  have e1 : IntKind.i64.wrap (a * d) = a * d := IntWalk.i64_in _ (by omega)
  have e2 : IntKind.i64.wrap (c * b) = c * b := IntWalk.i64_in _ (by omega)
  have HJ := Lib.hid (fun w' => cmpJ_any (a * d) (c * b) w')
  clear q1 q2 f1 f2 f3 f4 b1 b2 b3 b4
  go_enter Try.func41, Try.ntmps41
  go_wp2_with fail
  rw [HW1.out]
  obtain ⟨p0, p1, p2, p3⟩ := HRD.out W1 (Below.refl _ _)
  go_wp2_with fail
  refine (H1.out _).mono ?_
  rintro e w2 ⟨rfl, hb2⟩
  have HD2 := Lib.hid hb2
  have HB2 := Lib.hid (HB0.out.trans (hb2.mono HB0.out.size))
  clear hb2 p0 p1 p2 p3
  obtain ⟨p0, p1, p2, p3⟩ := HRD.out w2 HD2.out
  go_wp2_with fail
  refine (H2.out _).mono ?_
  rintro e w3 ⟨rfl, hb3⟩
  have HD3 := Lib.hid (HD2.out.trans (hb3.mono HD2.out.size))
  have HB3 := Lib.hid (HB2.out.trans (hb3.mono HB2.out.size))
  clear hb3 p0 p1 p2 p3
  obtain ⟨p0, p1, p2, p3⟩ := HRD.out w3 HD3.out
  go_wp2_with fail
  refine (HJ.out _).mono ?_
  rintro e w4 ⟨rfl, rfl⟩
  clear p0 p1 p2 p3
  go_wp2_with fail
  go_ret2
  exact ⟨by rw [HS.out]; rfl, HB3.out⟩

set_option maxRecDepth 100000 in
theorem rless_any (a b c d : Int) (w : World) (e1 : IntKind.i64.wrap (a * d) = a * d) (e2 : IntKind.i64.wrap (c * b) = c * b) : Calls Try.prog 79 #[.agg #[.int .i64 a, .int .i64 b], .agg #[.int .i64 c, .int .i64 d]] w fun e w' => e = .returned (.bool (decide (a * d < c * b))) ∧ Below w.heap.size w w' := by
  have HB := Lib.hid (((Below.refl _ w).alloc (Nat.le_refl w.heap.size) (.cells #[.int .i64 a, .int .i64 b] 52)).alloc (by simp) (.cells #[.int .i64 c, .int .i64 d] 52))
  go_enter Try.func79, Try.ntmps79
  go_wp2_with fail
  go_ret
  exact ⟨rfl, HB.out⟩
set_option maxRecDepth 100000 in
set_option maxHeartbeats 2000000 in
theorem rCompare_any (a b c d : Int) (w : World) : Calls Try.prog 42 #[.agg #[.int .i64 a, .int .i64 b], .agg #[.int .i64 c, .int .i64 d]] w fun e w' => e = .returned (cpO a b c d) ∧ Below w.heap.size w w' := by
  have H1 := Lib.hid (fun w' => rfraction_any a b w')
  have H2 := Lib.hid (fun w' => rfraction_any c d w')
  have HS : Hid (cpO a b c d = if frB a b = true ∧ frB c d = true then .tuple #[.int .i64 (cmpJ (a * d) (c * b)), .int .i64 0] else .tuple #[.int .i64 0, .int .i64 1]) := Lib.hid rfl
  have HB0 := Lib.hid (((Below.refl _ w).alloc (Nat.le_refl w.heap.size) (.cells #[.int .i64 a, .int .i64 b] 52)).alloc (by simp) (.cells #[.int .i64 c, .int .i64 d] 52))
  have HG0 := Lib.hid ((gNe (w.alloc (.cells #[.int .i64 a, .int .i64 b] 52)) (.cells #[.int .i64 c, .int .i64 d] 52) w.heap.size (by simp)).trans (heap_alloc_new _ _))
  have HG1 : Hid (((w.alloc (.cells #[.int .i64 a, .int .i64 b] 52)).alloc (.cells #[.int .i64 c, .int .i64 d] 52)).heap[w.heap.size + 1]? = some (.cells #[.int .i64 c, .int .i64 d] 52 (0, 0))) := Lib.hid (gAt _ _ _ (by simp))
  obtain ⟨W1, hW1⟩ : ∃ W1, (w.alloc (.cells #[.int .i64 a, .int .i64 b] 52)).alloc (.cells #[.int .i64 c, .int .i64 d] 52) = W1 := ⟨_, rfl⟩
  rw [hW1] at HB0 HG0 HG1
  have HW1 := Lib.hid hW1
  have HRD : Hid (∀ W', Below W1.heap.size W1 W' → W'.cell? ⟨w.heap.size, 0, none⟩ = some (.int .i64 a) ∧ W'.cell? ⟨w.heap.size, 1, none⟩ = some (.int .i64 b) ∧ W'.cell? ⟨w.heap.size + 1, 0, none⟩ = some (.int .i64 c) ∧ W'.cell? ⟨w.heap.size + 1, 1, none⟩ = some (.int .i64 d)) := Lib.hid (fun W' h => by
    have m0 := (h.block _ (Array.getElem?_eq_some_iff.1 HG0.out).1).trans HG0.out
    have m1 := (h.block _ (Array.getElem?_eq_some_iff.1 HG1.out).1).trans HG1.out
    exact ⟨cellH m0 0, cellH m0 1, cellH m1 0, cellH m1 1⟩)
  clear hW1
  cases q1 : frB a b
  · rw [q1] at H1 HS
    clear q1
    go_enter Try.func42, Try.ntmps42
    go_wp2_with fail
    rw [HW1.out]
    obtain ⟨p0, p1, p2, p3⟩ := HRD.out W1 (Below.refl _ _)
    go_wp2_with fail
    refine (H1.out _).mono ?_
    rintro e w2 ⟨rfl, hb2⟩
    have HB2 := Lib.hid (HB0.out.trans (hb2.mono HB0.out.size))
    clear hb2 p0 p1 p2 p3
    go_wp2_with fail
    go_ret2
    exact ⟨by rw [HS.out, if_neg (by simp)]; rfl, HB2.out⟩
  rw [q1] at H1 HS
  cases q2 : frB c d
  · rw [q2] at H2 HS
    clear q1 q2
    go_enter Try.func42, Try.ntmps42
    go_wp2_with fail
    rw [HW1.out]
    obtain ⟨p0, p1, p2, p3⟩ := HRD.out W1 (Below.refl _ _)
    go_wp2_with fail
    refine (H1.out _).mono ?_
    rintro e w2 ⟨rfl, hb2⟩
    have HD2 := Lib.hid hb2
    have HB2 := Lib.hid (HB0.out.trans (hb2.mono HB0.out.size))
    clear hb2 p0 p1 p2 p3
    obtain ⟨p0, p1, p2, p3⟩ := HRD.out w2 HD2.out
    go_wp2_with fail
    refine (H2.out _).mono ?_
    rintro e w3 ⟨rfl, hb3⟩
    have HB3 := Lib.hid (HB2.out.trans (hb3.mono HB2.out.size))
    clear hb3 p0 p1 p2 p3
    go_wp2_with fail
    go_ret2
    exact ⟨by rw [HS.out, if_neg (by simp)]; rfl, HB3.out⟩
  rw [q2] at H2 HS
  obtain ⟨f1, f2⟩ := frB_ok q1
  obtain ⟨f3, f4⟩ := frB_ok q2
  obtain ⟨b1, b2⟩ := prod_bd f1 f4
  obtain ⟨b3, b4⟩ := prod_bd f3 f2
  rw [if_pos ⟨rfl, rfl⟩] at HS
  have e1 : IntKind.i64.wrap (a * d) = a * d := IntWalk.i64_in _ (by omega)
  have e2 : IntKind.i64.wrap (c * b) = c * b := IntWalk.i64_in _ (by omega)
  have HL1 := Lib.hid (fun w' => rless_any a b c d w' e1 e2)
  have HL2 := Lib.hid (fun w' => rless_any c d a b w' e2 e1)
  clear q1 q2 f1 f2 f3 f4 b1 b2 b3 b4 e1 e2
  go_enter Try.func42, Try.ntmps42
  go_wp2_with fail
  rw [HW1.out]
  obtain ⟨p0, p1, p2, p3⟩ := HRD.out W1 (Below.refl _ _)
  go_wp2_with fail
  refine (H1.out _).mono ?_
  rintro e w2 ⟨rfl, hb2⟩
  have HD2 := Lib.hid hb2
  have HB2 := Lib.hid (HB0.out.trans (hb2.mono HB0.out.size))
  clear hb2 p0 p1 p2 p3
  obtain ⟨p0, p1, p2, p3⟩ := HRD.out w2 HD2.out
  go_wp2_with fail
  refine (H2.out _).mono ?_
  rintro e w3 ⟨rfl, hb3⟩
  have HD3 := Lib.hid (HD2.out.trans (hb3.mono HD2.out.size))
  have HB3 := Lib.hid (HB2.out.trans (hb3.mono HB2.out.size))
  clear hb3 p0 p1 p2 p3
  obtain ⟨p0, p1, p2, p3⟩ := HRD.out w3 HD3.out
  by_cases c1 : a * d < c * b
  · have HN : Hid (cmpJ (a * d) (c * b) = -1) := Lib.hid (by unfold cmpJ; rw [if_pos c1])
    rw [decide_eq_true c1] at HL1
    clear c1
    go_wp2_with fail
    refine (HL1.out _).mono ?_
    rintro e w4 ⟨rfl, hb4⟩
    have HB4 := Lib.hid (HB3.out.trans (hb4.mono HB3.out.size))
    clear p0 p1 p2 p3 hb4
    go_wp2_with fail
    go_ret2
    exact ⟨by rw [HS.out, HN.out]; rfl, HB4.out⟩
  · have HJ : Hid (cmpJ (a * d) (c * b) = if c * b < a * d then 1 else 0) := Lib.hid (by unfold cmpJ; rw [if_neg c1])
    rw [decide_eq_false c1] at HL1
    clear c1
    go_wp2_with fail
    refine (HL1.out _).mono ?_
    rintro e w4 ⟨rfl, hb4⟩
    have HD4 := Lib.hid (HD3.out.trans (hb4.mono HD3.out.size))
    have HB4 := Lib.hid (HB3.out.trans (hb4.mono HB3.out.size))
    clear p0 p1 p2 p3 hb4
    obtain ⟨p0, p1, p2, p3⟩ := HRD.out w4 HD4.out
    by_cases c2 : c * b < a * d
    · rw [decide_eq_true c2] at HL2
      rw [if_pos c2] at HJ
      clear c2
      go_wp2_with fail
      refine (HL2.out _).mono ?_
      rintro e w5 ⟨rfl, hb5⟩
      have HB5 := Lib.hid (HB4.out.trans (hb5.mono HB4.out.size))
      clear p0 p1 p2 p3 hb5
      go_wp2_with fail
      go_ret2
      exact ⟨by rw [HS.out, HJ.out]; rfl, HB5.out⟩
    · rw [decide_eq_false c2] at HL2
      rw [if_neg c2] at HJ
      clear c2
      go_wp2_with fail
      refine (HL2.out _).mono ?_
      rintro e w5 ⟨rfl, hb5⟩
      have HB5 := Lib.hid (HB4.out.trans (hb5.mono HB4.out.size))
      clear p0 p1 p2 p3 hb5
      go_wp2_with fail
      go_ret2
      exact ⟨by rw [HS.out, HJ.out]; rfl, HB5.out⟩

end Go.Proofs.Ytbcbjcfegeidiaa
