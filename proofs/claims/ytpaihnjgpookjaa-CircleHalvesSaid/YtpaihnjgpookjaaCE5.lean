/- Package firetowerref05: Halves; which places fulfil the half-planes of a wedge. -/
import Derived.Test.YtpaihnjgpookjaaCD3
import Derived.Test.YtpaihnjgpookjaaCD5
import Derived.Test.YtpaihnjgpookjaaCA7
set_option linter.unusedVariables false
set_option linter.unusedSimpArgs false
namespace Go.Proofs.Ytpaihnjgpookjaa
open Go Go.RowKit

theorem vc_side {n : Int} (hn : 0 ≤ n ∧ n ≤ 3599) : ∃ j : Int, (-450 ≤ j ∧ j ≤ 449) ∧ ((n = j ∧ vcX n = 450 ∧ vcY n = j) ∨ (n = 900 + j ∧ vcX n = -j ∧ vcY n = 450) ∨ (n = 1800 + j ∧ vcX n = -450 ∧ vcY n = -j) ∨ (n = 2700 + j ∧ vcX n = j ∧ vcY n = -450) ∨ (n = 3600 + j ∧ vcX n = 450 ∧ vcY n = j)) := by
  unfold vcX vcY
  obtain ⟨m, hm⟩ : ∃ m, (n + 450) % 3600 = m := ⟨_, rfl⟩
  rw [hm]
  by_cases h1 : n < 450
  · exact ⟨n, by omega, .inl ⟨rfl, by rw [if_pos (by omega)], by rw [if_pos (by omega)]; omega⟩⟩
  by_cases h2 : n < 1350
  · exact ⟨n - 900, by omega, .inr (.inl ⟨by omega, by rw [if_neg (by omega), if_pos (by omega)]; omega, by rw [if_neg (by omega), if_pos (by omega)]⟩)⟩
  by_cases h3 : n < 2250
  · exact ⟨n - 1800, by omega, .inr (.inr (.inl ⟨by omega, by rw [if_neg (by omega), if_neg (by omega), if_pos (by omega)], by rw [if_neg (by omega), if_neg (by omega), if_pos (by omega)]; omega⟩))⟩
  by_cases h4 : n < 3150
  · exact ⟨n - 2700, by omega, .inr (.inr (.inr (.inl ⟨by omega, by rw [if_neg (by omega), if_neg (by omega), if_neg (by omega)]; omega, by rw [if_neg (by omega), if_neg (by omega), if_neg (by omega)]⟩)))⟩
  · exact ⟨n - 3600, by omega, .inr (.inr (.inr (.inr ⟨by omega, by rw [if_pos (by omega)], by rw [if_pos (by omega)]; omega⟩)))⟩
theorem tw_side {x y : Int} (hx : -48 ≤ x ∧ x ≤ 48) (hy : -48 ≤ y ∧ y ≤ 48) (h : ¬ (x = 0 ∧ y = 0)) : ∃ v : Int, 1 ≤ twD x y ∧ (-twD x y ≤ v ∧ v ≤ twD x y) ∧ ((x = twD x y ∧ y = v ∧ (twN x y = 450 * v ∧ 0 ≤ v ∨ twN x y = 450 * v + 3600 * twD x y ∧ v < 0)) ∨ (x = -v ∧ y = twD x y ∧ twN x y = 450 * v + 900 * twD x y) ∨ (x = -twD x y ∧ y = -v ∧ twN x y = 450 * v + 1800 * twD x y) ∨ (x = v ∧ y = -twD x y ∧ twN x y = 450 * v + 2700 * twD x y)) := by
  unfold twN twM
  obtain ⟨u, hu⟩ : ∃ u, twD x y = u := ⟨_, rfl⟩
  rw [hu]
  unfold twD at hu
  by_cases h1 : max y (-y) ≤ x
  · rw [if_pos h1]
    refine ⟨y, by omega, by omega, .inl ⟨by omega, rfl, ?_⟩⟩
    split <;> omega
  · rw [if_neg h1]
    by_cases h2 : max x (-x) ≤ y
    · rw [if_pos h2]
      refine ⟨-x, by omega, by omega, .inr (.inl ⟨by omega, by omega, ?_⟩)⟩
      split <;> omega
    · rw [if_neg h2]
      by_cases h3 : max y (-y) ≤ -x
      · rw [if_pos h3]
        refine ⟨-y, by omega, by omega, .inr (.inr (.inl ⟨by omega, by omega, ?_⟩))⟩
        split <;> omega
      · rw [if_neg h3]
        refine ⟨x, by omega, by omega, .inr (.inr (.inr ⟨rfl, by omega, ?_⟩))⟩
        split <;> omega
theorem nl_core {j u v : Int} (hj : -450 ≤ j ∧ j ≤ 449) (hu : 1 ≤ u) (hv : -u ≤ v ∧ v ≤ u) : (-(450 * u) ≤ j * u ∧ j * u ≤ 449 * u) ∧ (-(450 * u) ≤ j * v ∧ j * v ≤ 450 * u) ∧ (j * v ≤ -(450 * u) ↔ 900 * u ≤ 450 * v - j * u) := by
  have a1 : (-450) * u ≤ j * u := Int.mul_le_mul_of_nonneg_right (by omega) (by omega)
  have a2 : j * u ≤ 449 * u := Int.mul_le_mul_of_nonneg_right (by omega) (by omega)
  by_cases h : j = -450
  · subst h
    omega
  · have a3 : (-449) * u ≤ j * u := Int.mul_le_mul_of_nonneg_right (by omega) (by omega)
    rcases Int.le_total 0 v with h0 | h0
    · have b1 : (-449) * v ≤ j * v := Int.mul_le_mul_of_nonneg_right (by omega) h0
      have b2 : j * v ≤ 449 * v := Int.mul_le_mul_of_nonneg_right (by omega) h0
      omega
    · have b1 : (-449) * (-v) ≤ j * (-v) := Int.mul_le_mul_of_nonneg_right (by omega) (by omega)
      have b2 : j * (-v) ≤ 449 * (-v) := Int.mul_le_mul_of_nonneg_right (by omega) (by omega)
      simp only [Int.mul_neg, Int.neg_mul, Int.neg_neg] at b1 b2
      omega
/-- On which side of a wedge's beginning a direction lies. -/
theorem cr_sign {n x y : Int} (hn : 0 ≤ n ∧ n ≤ 3599) (hx : -48 ≤ x ∧ x ≤ 48) (hy : -48 ≤ y ∧ y ≤ 48) (h : ¬ (x = 0 ∧ y = 0)) :
    (0 ≤ vcX n * y - vcY n * x ↔ psI n (twN x y) (twD x y) ≤ 1800 * twD x y) ∧ (vcX n * y - vcY n * x ≤ 0 ↔ psI n (twN x y) (twD x y) = 0 ∨ 1800 * twD x y ≤ psI n (twN x y) (twD x y)) := by
  obtain ⟨v, hu, hv, hs⟩ := tw_side hx hy h
  obtain ⟨j, hj, hq⟩ := vc_side hn
  obtain ⟨⟨n1, n2⟩, ⟨n3, n4⟩, n5⟩ := nl_core hj hu hv
  have m1 := Int.mul_nonneg hn.1 (show 0 ≤ twD x y by omega)
  have m2 : n * twD x y ≤ 3599 * twD x y := Int.mul_le_mul_of_nonneg_right hn.2 (by omega)
  clear h hx hy
  generalize twD x y = u at *
  generalize twN x y = N at *
  have hp : psI n N u = if N - n * u < 0 then N - n * u + 3600 * u else N - n * u := rfl
  rw [hp]
  clear hp
  generalize vcX n = VX at *
  generalize vcY n = VY at *
  rcases hq with ⟨rfl, rfl, rfl⟩ | ⟨rfl, rfl, rfl⟩ | ⟨rfl, rfl, rfl⟩ | ⟨rfl, rfl, rfl⟩ | ⟨rfl, rfl, rfl⟩ <;>
  rcases hs with ⟨rfl, rfl, ⟨rfl, hz⟩ | ⟨rfl, hz⟩⟩ | ⟨rfl, rfl, rfl⟩ | ⟨rfl, rfl, rfl⟩ | ⟨rfl, rfl, rfl⟩ <;>
  (try simp only [Int.add_mul] at m1 m2) <;>
  (try simp only [Int.add_mul, Int.neg_mul, Int.mul_neg, Int.neg_neg]) <;>
  split <;> constructor <;> omega
/-- A place fulfils both half-planes of a wedge exactly if it lies in it. -/
theorem hv_lies {f t a b c d : Int} (hv : hvB f t a b = true) (hb : brB a b c d = true) :
    (decide (vcY f * c + -vcX f * d ≤ vcY f * a - vcX f * b) && decide (-vcY t * c + vcX t * d ≤ -vcY t * a - -vcX t * b)) = lsB f t a b c d := by
  have hv' := hv
  unfold hvB at hv'
  rw [Bool.and_eq_true, Bool.and_eq_true] at hv'
  obtain ⟨⟨hw, hne⟩, _⟩ := hv'
  have hne : f ≠ t := by simpa using hne
  obtain ⟨w1, w2, w3, w4, w5⟩ := vw_ok hw
  obtain ⟨h1, h2, h3⟩ := brB_ok hb
  rw [ls_eq hw hb]
  unfold hsB
  obtain ⟨t1, t2, t3, t4, _⟩ := tw_ok (x := c - a) (y := d - b) (by omega) (by omega) h3
  obtain ⟨s1, s3⟩ := cr_sign (n := f) (x := c - a) (y := d - b) w1 (by omega) (by omega) h3
  obtain ⟨s4, s2⟩ := cr_sign (n := t) (x := c - a) (y := d - b) w2 (by omega) (by omega) h3
  have e1 : (vcY f * c + -vcX f * d ≤ vcY f * a - vcX f * b) ↔ 0 ≤ vcX f * (d - b) - vcY f * (c - a) := by
    rw [Int.mul_sub, Int.mul_sub, Int.neg_mul]; omega
  have e2 : (-vcY t * c + vcX t * d ≤ -vcY t * a - -vcX t * b) ↔ vcX t * (d - b) - vcY t * (c - a) ≤ 0 := by
    rw [Int.mul_sub, Int.mul_sub, Int.neg_mul, Int.neg_mul, Int.neg_mul]; omega
  rw [Bool.eq_iff_iff, Bool.and_eq_true, decide_eq_true_eq, decide_eq_true_eq, decide_eq_true_eq, e1, e2, s1, s2]
  clear e1 e2 s1 s2 s3 s4 h1 h2 h3 hb
  generalize twN (c - a) (d - b) = N at *
  generalize twD (c - a) (d - b) = u at *
  obtain ⟨o, ho⟩ : ∃ o, opI f t = o := ⟨_, rfl⟩
  rw [ho] at w3 w4 w5 ⊢
  have ho1 : 1 ≤ o := by omega
  have ht : t = f + o ∨ t = f + o - 3600 := by omega
  have m1 := Int.mul_nonneg w1.1 (show 0 ≤ u by omega)
  have m2 : f * u ≤ 3599 * u := Int.mul_le_mul_of_nonneg_right w1.2 (by omega)
  have m3 : 1 * u ≤ o * u := Int.mul_le_mul_of_nonneg_right ho1 (by omega)
  have m4 : o * u ≤ 900 * u := Int.mul_le_mul_of_nonneg_right w5 (by omega)
  have m5 := Int.mul_nonneg w2.1 (show 0 ≤ u by omega)
  have m6 : t * u ≤ 3599 * u := Int.mul_le_mul_of_nonneg_right w2.2 (by omega)
  unfold psI
  rcases ht with rfl | rfl
  · rw [show (f + o) * u = f * u + o * u from Int.add_mul ..] at m5 m6 ⊢
    (repeat' split) <;> omega
  · rw [show (f + o - 3600) * u = f * u + o * u - 3600 * u by rw [Int.sub_mul, Int.add_mul]] at m5 m6 ⊢
    (repeat' split) <;> omega
theorem hv_edge (f t a b : Int) : vcY f * a + -vcX f * b = vcY f * a - vcX f * b ∧ -vcY t * a + vcX t * b = -vcY t * a - -vcX t * b := by
  rw [Int.neg_mul, Int.neg_mul, Int.neg_mul]
  omega
set_option maxRecDepth 100000 in
set_option maxHeartbeats 8000000 in
theorem pHalves_any (f t a b : Int) (w : World) : Calls Try.prog 18 #[.agg #[.int .i64 f, .int .i64 t], .agg #[.int .i64 a, .int .i64 b]] w fun e w' => e = .returned (.tuple #[hvV f t a b, .bool (hvB f t a b)]) ∧ Below w.heap.size w w' := by
  have H1 := Lib.hid (fun w' => pRight_any f t w')
  have H2 := Lib.hid (fun w' => pOn_any a b w')
  have H3 := Lib.hid (fun w' => pVector_any f w')
  have H4 := Lib.hid (fun w' => pVector_any t w')
  have HVF := Lib.hid (vc_bd f)
  have HVT := Lib.hid (vc_bd t)
  have HOM := Lib.hid (@om_iff a b)
  have HBB : Hid (hvB f t a b = (vwB f t && !(f == t) && omB a b)) := Lib.hid rfl
  have HV : Hid (hvV f t a b = _) := Lib.hid (hvV.eq_1 f t a b)
  obtain ⟨vw, hvw⟩ : ∃ z, vwB f t = z := ⟨_, rfl⟩
  obtain ⟨om, hom⟩ : ∃ z, omB a b = z := ⟨_, rfl⟩
  obtain ⟨B, hB⟩ : ∃ z, hvB f t a b = z := ⟨_, rfl⟩
  obtain ⟨V, hV⟩ : ∃ z, hvV f t a b = z := ⟨_, rfl⟩
  obtain ⟨fx, hfx⟩ : ∃ z, vcX f = z := ⟨_, rfl⟩
  obtain ⟨fy, hfy⟩ : ∃ z, vcY f = z := ⟨_, rfl⟩
  obtain ⟨tx, htx⟩ : ∃ z, vcX t = z := ⟨_, rfl⟩
  obtain ⟨ty, hty⟩ : ∃ z, vcY t = z := ⟨_, rfl⟩
  rw [hvw] at H1 HBB
  rw [hom] at H2 HBB HOM
  rw [hB] at HBB HV ⊢
  rw [hV] at HV ⊢
  rw [htx, hty] at H4 HVT
  rw [hfx, hfy] at H3 HVF
  rw [hfx, hfy, htx, hty] at HV
  clear hvw hom hB hV hfx hfy htx hty
  obtain ⟨x0, x1, x2, xlt, xb⟩ := cells3 w #[.int .i64 f, .int .i64 t] #[.int .i64 a, .int .i64 b] #[.int .i64 0, .int .i64 0, .int .i64 0, .int .i64 0, .int .i64 0, .int .i64 0] 23 25 39 (Below.refl _ _)
  have HNw : Hid ((((w.alloc (.cells #[.int .i64 f, .int .i64 t] 23)).alloc (.cells #[.int .i64 a, .int .i64 b] 25)).alloc (.cells #[.int .i64 0, .int .i64 0, .int .i64 0, .int .i64 0, .int .i64 0, .int .i64 0] 39)).heap[w.heap.size]? = some (.cells #[.int .i64 f, .int .i64 t] 23 (0, 0))) := Lib.hid x0
  have HNf : Hid ((((w.alloc (.cells #[.int .i64 f, .int .i64 t] 23)).alloc (.cells #[.int .i64 a, .int .i64 b] 25)).alloc (.cells #[.int .i64 0, .int .i64 0, .int .i64 0, .int .i64 0, .int .i64 0, .int .i64 0] 39)).heap[w.heap.size + 1]? = some (.cells #[.int .i64 a, .int .i64 b] 25 (0, 0))) := Lib.hid x1
  have HNr : Hid ((((w.alloc (.cells #[.int .i64 f, .int .i64 t] 23)).alloc (.cells #[.int .i64 a, .int .i64 b] 25)).alloc (.cells #[.int .i64 0, .int .i64 0, .int .i64 0, .int .i64 0, .int .i64 0, .int .i64 0] 39)).heap[w.heap.size + 1 + 1]? = some (.cells #[.int .i64 0, .int .i64 0, .int .i64 0, .int .i64 0, .int .i64 0, .int .i64 0] 39 (0, 0))) := Lib.hid x2
  have HB : Hid (Below w.heap.size w (((w.alloc (.cells #[.int .i64 f, .int .i64 t] 23)).alloc (.cells #[.int .i64 a, .int .i64 b] 25)).alloc (.cells #[.int .i64 0, .int .i64 0, .int .i64 0, .int .i64 0, .int .i64 0, .int .i64 0] 39))) := Lib.hid xb
  obtain ⟨Z, hZ⟩ : ∃ Z, (((w.alloc (.cells #[.int .i64 f, .int .i64 t] 23)).alloc (.cells #[.int .i64 a, .int .i64 b] 25)).alloc (.cells #[.int .i64 0, .int .i64 0, .int .i64 0, .int .i64 0, .int .i64 0, .int .i64 0] 39)) = Z := ⟨_, rfl⟩
  rw [hZ] at HB HNw HNf HNr
  have HZ := Lib.hid hZ
  clear hZ xlt xb x0 x1 x2
  go_enter Try.func18, Try.ntmps18
  go_wp2_with fail
  rw [HZ.out]
  refine (H1.out _).mono ?_
  rintro e w1 ⟨rfl, hb⟩
  replace HB := Lib.hid (HB.out.trans (hb.mono HB.out.size))
  replace HNw := Lib.hid ((hb.block _ (Array.getElem?_eq_some_iff.1 HNw.out).1).trans HNw.out)
  replace HNf := Lib.hid ((hb.block _ (Array.getElem?_eq_some_iff.1 HNf.out).1).trans HNf.out)
  replace HNr := Lib.hid ((hb.block _ (Array.getElem?_eq_some_iff.1 HNr.out).1).trans HNr.out)
  clear hb
  have zw0 := cellH HNw.out 0
  have zw1 := cellH HNw.out 1
  have zf0 := cellH HNf.out 0
  have zf1 := cellH HNf.out 1
  have zr0 := cellH HNr.out 0
  have zr1 := cellH HNr.out 1
  have zr2 := cellH HNr.out 2
  have zr3 := cellH HNr.out 3
  have zr4 := cellH HNr.out 4
  have zr5 := cellH HNr.out 5
  simp only [List.getElem?_toArray, List.getElem?_cons_zero, List.getElem?_cons_succ] at zw0 zw1 zf0 zf1 zr0 zr1 zr2 zr3 zr4 zr5
  go_wp2_with fail
  refine (H2.out _).mono ?_
  rintro e w2 ⟨rfl, hb⟩
  clear zw0 zw1 zf0 zf1 zr0 zr1 zr2 zr3 zr4 zr5
  replace HB := Lib.hid (HB.out.trans (hb.mono HB.out.size))
  replace HNw := Lib.hid ((hb.block _ (Array.getElem?_eq_some_iff.1 HNw.out).1).trans HNw.out)
  replace HNf := Lib.hid ((hb.block _ (Array.getElem?_eq_some_iff.1 HNf.out).1).trans HNf.out)
  replace HNr := Lib.hid ((hb.block _ (Array.getElem?_eq_some_iff.1 HNr.out).1).trans HNr.out)
  clear hb
  cases vw
  · have HN : Hid (B = false) := Lib.hid (by rw [HBB.out]; rfl)
    have zw0 := cellH HNw.out 0
    have zw1 := cellH HNw.out 1
    have zr0 := cellH HNr.out 0
    have zr1 := cellH HNr.out 1
    have zr2 := cellH HNr.out 2
    have zr3 := cellH HNr.out 3
    have zr4 := cellH HNr.out 4
    have zr5 := cellH HNr.out 5
    simp only [List.getElem?_toArray, List.getElem?_cons_zero, List.getElem?_cons_succ] at zw0 zw1 zr0 zr1 zr2 zr3 zr4 zr5
    have zfr := freeH HNr.out
    go_wp2_with fail
    obtain ⟨z1, z2⟩ := set6 HNr.out HB.out (by omega) (.int .i64 0) (.int .i64 0) (.int .i64 0) (.int .i64 0) (.int .i64 0) (.int .i64 0)
    refine bodyPost_ret (res_ct Try.results18 _ _ (w.heap.size + 1 + 1) 39 #[.int .i64 0, .int .i64 0, .int .i64 0, .int .i64 0, .int .i64 0, .int .i64 0] (0, 0) _ rfl z1 Try.underlying39 rfl info_h26) rfl ?_
    exact ⟨by rw [HV.out, HN.out]; rfl, z2⟩
  cases om
  · have HN : Hid (B = false) := Lib.hid (by rw [HBB.out]; simp)
    have zw0 := cellH HNw.out 0
    have zw1 := cellH HNw.out 1
    have zr0 := cellH HNr.out 0
    have zr1 := cellH HNr.out 1
    have zr2 := cellH HNr.out 2
    have zr3 := cellH HNr.out 3
    have zr4 := cellH HNr.out 4
    have zr5 := cellH HNr.out 5
    simp only [List.getElem?_toArray, List.getElem?_cons_zero, List.getElem?_cons_succ] at zw0 zw1 zr0 zr1 zr2 zr3 zr4 zr5
    have zfr := freeH HNr.out
    go_wp2_with fail
    obtain ⟨z1, z2⟩ := set6 HNr.out HB.out (by omega) (.int .i64 0) (.int .i64 0) (.int .i64 0) (.int .i64 0) (.int .i64 0) (.int .i64 0)
    refine bodyPost_ret (res_ct Try.results18 _ _ (w.heap.size + 1 + 1) 39 #[.int .i64 0, .int .i64 0, .int .i64 0, .int .i64 0, .int .i64 0, .int .i64 0] (0, 0) _ rfl z1 Try.underlying39 rfl info_h26) rfl ?_
    exact ⟨by rw [HV.out, HN.out]; rfl, z2⟩
  by_cases hft : f = t
  · have HN : Hid (B = false) := Lib.hid (by rw [HBB.out, hft]; simp)
    have gft : (f == t) = true := by simpa using hft
    clear hft
    have zw0 := cellH HNw.out 0
    have zw1 := cellH HNw.out 1
    have zr0 := cellH HNr.out 0
    have zr1 := cellH HNr.out 1
    have zr2 := cellH HNr.out 2
    have zr3 := cellH HNr.out 3
    have zr4 := cellH HNr.out 4
    have zr5 := cellH HNr.out 5
    simp only [List.getElem?_toArray, List.getElem?_cons_zero, List.getElem?_cons_succ] at zw0 zw1 zr0 zr1 zr2 zr3 zr4 zr5
    have zfr := freeH HNr.out
    go_wp2_with fail
    obtain ⟨z1, z2⟩ := set6 HNr.out HB.out (by omega) (.int .i64 0) (.int .i64 0) (.int .i64 0) (.int .i64 0) (.int .i64 0) (.int .i64 0)
    refine bodyPost_ret (res_ct Try.results18 _ _ (w.heap.size + 1 + 1) 39 #[.int .i64 0, .int .i64 0, .int .i64 0, .int .i64 0, .int .i64 0, .int .i64 0] (0, 0) _ rfl z1 Try.underlying39 rfl info_h26) rfl ?_
    exact ⟨by rw [HV.out, HN.out]; rfl, z2⟩
  have gft : (f == t) = false := by simpa using hft
  have HN : Hid (B = true) := Lib.hid (by rw [HBB.out, gft]; rfl)
  clear hft HBB
  have zw0 := cellH HNw.out 0
  have zw1 := cellH HNw.out 1
  have zf0 := cellH HNf.out 0
  have zf1 := cellH HNf.out 1
  simp only [List.getElem?_toArray, List.getElem?_cons_zero, List.getElem?_cons_succ] at zw0 zw1 zf0 zf1
  go_wp2_with fail
  refine (H3.out _).mono ?_
  rintro e w3 ⟨rfl, hb⟩
  clear zw0 zw1 zf0 zf1
  replace HB := Lib.hid (HB.out.trans (hb.mono HB.out.size))
  replace HNw := Lib.hid ((hb.block _ (Array.getElem?_eq_some_iff.1 HNw.out).1).trans HNw.out)
  replace HNf := Lib.hid ((hb.block _ (Array.getElem?_eq_some_iff.1 HNf.out).1).trans HNf.out)
  replace HNr := Lib.hid ((hb.block _ (Array.getElem?_eq_some_iff.1 HNr.out).1).trans HNr.out)
  clear hb
  have hal : Below w3.heap.size w3 (w3.alloc (.cells #[.int .i64 fx, .int .i64 fy] 25)) := (Below.refl _ w3).alloc (Nat.le_refl _) _
  have HSu : Hid (w.heap.size ≤ w3.heap.size) := Lib.hid HB.out.size
  have HNu : Hid ((w3.alloc (.cells #[.int .i64 fx, .int .i64 fy] 25)).heap[w3.heap.size]? = some (.cells #[.int .i64 fx, .int .i64 fy] 25 (0, 0))) := Lib.hid (heap_alloc_new _ _)
  replace HB := Lib.hid (HB.out.trans (hal.mono HB.out.size))
  replace HNw := Lib.hid ((hal.block _ (Array.getElem?_eq_some_iff.1 HNw.out).1).trans HNw.out)
  replace HNf := Lib.hid ((hal.block _ (Array.getElem?_eq_some_iff.1 HNf.out).1).trans HNf.out)
  replace HNr := Lib.hid ((hal.block _ (Array.getElem?_eq_some_iff.1 HNr.out).1).trans HNr.out)
  obtain ⟨au, hau⟩ : ∃ qq, w3.alloc (.cells #[.int .i64 fx, .int .i64 fy] 25) = qq := ⟨_, rfl⟩
  obtain ⟨bku, hbu⟩ : ∃ qq, w3.heap.size = qq := ⟨_, rfl⟩
  rw [hau] at HB HNu HNw HNf HNr
  rw [hbu] at HNu HSu
  clear hal
  have zw0 := cellH HNw.out 0
  have zw1 := cellH HNw.out 1
  have zf0 := cellH HNf.out 0
  have zf1 := cellH HNf.out 1
  simp only [List.getElem?_toArray, List.getElem?_cons_zero, List.getElem?_cons_succ] at zw0 zw1 zf0 zf1
  go_wp2_with fail
  try clear hau hbu
  refine (H4.out _).mono ?_
  rintro e w4 ⟨rfl, hb⟩
  clear zw0 zw1 zf0 zf1
  replace HB := Lib.hid (HB.out.trans (hb.mono HB.out.size))
  replace HNw := Lib.hid ((hb.block _ (Array.getElem?_eq_some_iff.1 HNw.out).1).trans HNw.out)
  replace HNf := Lib.hid ((hb.block _ (Array.getElem?_eq_some_iff.1 HNf.out).1).trans HNf.out)
  replace HNr := Lib.hid ((hb.block _ (Array.getElem?_eq_some_iff.1 HNr.out).1).trans HNr.out)
  replace HNu := Lib.hid ((hb.block _ (Array.getElem?_eq_some_iff.1 HNu.out).1).trans HNu.out)
  clear hb
  have hal : Below w4.heap.size w4 (w4.alloc (.cells #[.int .i64 tx, .int .i64 ty] 25)) := (Below.refl _ w4).alloc (Nat.le_refl _) _
  have HSv : Hid (w.heap.size ≤ w4.heap.size) := Lib.hid HB.out.size
  have HNv : Hid ((w4.alloc (.cells #[.int .i64 tx, .int .i64 ty] 25)).heap[w4.heap.size]? = some (.cells #[.int .i64 tx, .int .i64 ty] 25 (0, 0))) := Lib.hid (heap_alloc_new _ _)
  replace HB := Lib.hid (HB.out.trans (hal.mono HB.out.size))
  replace HNw := Lib.hid ((hal.block _ (Array.getElem?_eq_some_iff.1 HNw.out).1).trans HNw.out)
  replace HNf := Lib.hid ((hal.block _ (Array.getElem?_eq_some_iff.1 HNf.out).1).trans HNf.out)
  replace HNr := Lib.hid ((hal.block _ (Array.getElem?_eq_some_iff.1 HNr.out).1).trans HNr.out)
  replace HNu := Lib.hid ((hal.block _ (Array.getElem?_eq_some_iff.1 HNu.out).1).trans HNu.out)
  obtain ⟨av, hav⟩ : ∃ qq, w4.alloc (.cells #[.int .i64 tx, .int .i64 ty] 25) = qq := ⟨_, rfl⟩
  obtain ⟨bkv, hbv⟩ : ∃ qq, w4.heap.size = qq := ⟨_, rfl⟩
  rw [hav] at HB HNv HNw HNf HNr HNu
  rw [hbv] at HNv HSv
  clear hal
  obtain ⟨om1, om2⟩ := HOM.out.1 (by trivial)
  have p1 := mul_cc HVF.out.2 om1
  have p2 := mul_cc HVF.out.1 om2
  have p3 := mul_cc HVT.out.2 om1
  have p4 := mul_cc HVT.out.1 om2
  have hvf := HVF.out
  have hvt := HVT.out
  have e1 : IntKind.i64.wrap (-fx) = -fx := IntWalk.i64_in _ (by omega)
  have e2 : IntKind.i64.wrap (-ty) = -ty := IntWalk.i64_in _ (by omega)
  have e3 : IntKind.i64.wrap (fy * a) = fy * a := IntWalk.i64_in _ (by omega)
  have e4 : IntKind.i64.wrap (fx * b) = fx * b := IntWalk.i64_in _ (by omega)
  have e5 : IntKind.i64.wrap (ty * a) = ty * a := IntWalk.i64_in _ (by omega)
  have e6 : IntKind.i64.wrap (tx * b) = tx * b := IntWalk.i64_in _ (by omega)
  have e7 : IntKind.i64.wrap (fy * a - fx * b) = fy * a - fx * b := IntWalk.i64_in _ (by omega)
  have e8 : IntKind.i64.wrap (tx * b - ty * a) = tx * b - ty * a := IntWalk.i64_in _ (by omega)
  clear om1 om2 p1 p2 p3 p4 hvf hvt gft
  have zf0 := cellH HNf.out 0
  have zf1 := cellH HNf.out 1
  have zu0 := cellH HNu.out 0
  have zu1 := cellH HNu.out 1
  simp only [List.getElem?_toArray, List.getElem?_cons_zero, List.getElem?_cons_succ] at zf0 zf1 zu0 zu1
  have hal : Below av.heap.size av (av.alloc (.cells #[.int .i64 fy, .int .i64 (-fx), .int .i64 (fy * a - fx * b)] 38)) := (Below.refl _ av).alloc (Nat.le_refl _) _
  have HSo1 : Hid (w.heap.size ≤ av.heap.size) := Lib.hid HB.out.size
  have HNo1 : Hid ((av.alloc (.cells #[.int .i64 fy, .int .i64 (-fx), .int .i64 (fy * a - fx * b)] 38)).heap[av.heap.size]? = some (.cells #[.int .i64 fy, .int .i64 (-fx), .int .i64 (fy * a - fx * b)] 38 (0, 0))) := Lib.hid (heap_alloc_new _ _)
  replace HB := Lib.hid (HB.out.trans (hal.mono HB.out.size))
  replace HNw := Lib.hid ((hal.block _ (Array.getElem?_eq_some_iff.1 HNw.out).1).trans HNw.out)
  replace HNf := Lib.hid ((hal.block _ (Array.getElem?_eq_some_iff.1 HNf.out).1).trans HNf.out)
  replace HNr := Lib.hid ((hal.block _ (Array.getElem?_eq_some_iff.1 HNr.out).1).trans HNr.out)
  replace HNu := Lib.hid ((hal.block _ (Array.getElem?_eq_some_iff.1 HNu.out).1).trans HNu.out)
  replace HNv := Lib.hid ((hal.block _ (Array.getElem?_eq_some_iff.1 HNv.out).1).trans HNv.out)
  obtain ⟨ao1, hao1⟩ : ∃ qq, av.alloc (.cells #[.int .i64 fy, .int .i64 (-fx), .int .i64 (fy * a - fx * b)] 38) = qq := ⟨_, rfl⟩
  obtain ⟨bko1, hbo1⟩ : ∃ qq, av.heap.size = qq := ⟨_, rfl⟩
  rw [hao1] at HB HNo1 HNw HNf HNr HNu HNv
  rw [hbo1] at HNo1 HSo1
  clear hal
  have zf0_8 := cellH HNf.out 0
  have zf1_8 := cellH HNf.out 1
  have zv0_8 := cellH HNv.out 0
  have zv1_8 := cellH HNv.out 1
  simp only [List.getElem?_toArray, List.getElem?_cons_zero, List.getElem?_cons_succ] at zf0_8 zf1_8 zv0_8 zv1_8
  have hal : Below ao1.heap.size ao1 (ao1.alloc (.cells #[.int .i64 (-ty), .int .i64 tx, .int .i64 (tx * b - ty * a)] 38)) := (Below.refl _ ao1).alloc (Nat.le_refl _) _
  have HSo2 : Hid (w.heap.size ≤ ao1.heap.size) := Lib.hid HB.out.size
  have HNo2 : Hid ((ao1.alloc (.cells #[.int .i64 (-ty), .int .i64 tx, .int .i64 (tx * b - ty * a)] 38)).heap[ao1.heap.size]? = some (.cells #[.int .i64 (-ty), .int .i64 tx, .int .i64 (tx * b - ty * a)] 38 (0, 0))) := Lib.hid (heap_alloc_new _ _)
  replace HB := Lib.hid (HB.out.trans (hal.mono HB.out.size))
  replace HNw := Lib.hid ((hal.block _ (Array.getElem?_eq_some_iff.1 HNw.out).1).trans HNw.out)
  replace HNf := Lib.hid ((hal.block _ (Array.getElem?_eq_some_iff.1 HNf.out).1).trans HNf.out)
  replace HNr := Lib.hid ((hal.block _ (Array.getElem?_eq_some_iff.1 HNr.out).1).trans HNr.out)
  replace HNu := Lib.hid ((hal.block _ (Array.getElem?_eq_some_iff.1 HNu.out).1).trans HNu.out)
  replace HNv := Lib.hid ((hal.block _ (Array.getElem?_eq_some_iff.1 HNv.out).1).trans HNv.out)
  replace HNo1 := Lib.hid ((hal.block _ (Array.getElem?_eq_some_iff.1 HNo1.out).1).trans HNo1.out)
  obtain ⟨ao2, hao2⟩ : ∃ qq, ao1.alloc (.cells #[.int .i64 (-ty), .int .i64 tx, .int .i64 (tx * b - ty * a)] 38) = qq := ⟨_, rfl⟩
  obtain ⟨bko2, hbo2⟩ : ∃ qq, ao1.heap.size = qq := ⟨_, rfl⟩
  rw [hao2] at HB HNo2 HNw HNf HNr HNu HNv HNo1
  rw [hbo2] at HNo2 HSo2
  clear hal
  have zr0_9 := cellH HNr.out 0
  have zr1_9 := cellH HNr.out 1
  have zr2_9 := cellH HNr.out 2
  have zr3_9 := cellH HNr.out 3
  have zr4_9 := cellH HNr.out 4
  have zr5_9 := cellH HNr.out 5
  have zo10_9 := cellH HNo1.out 0
  have zo11_9 := cellH HNo1.out 1
  have zo12_9 := cellH HNo1.out 2
  have zo20_9 := cellH HNo2.out 0
  have zo21_9 := cellH HNo2.out 1
  have zo22_9 := cellH HNo2.out 2
  simp only [List.getElem?_toArray, List.getElem?_cons_zero, List.getElem?_cons_succ] at zr0_9 zr1_9 zr2_9 zr3_9 zr4_9 zr5_9 zo10_9 zo11_9 zo12_9 zo20_9 zo21_9 zo22_9
  have zfr_9 := freeH HNr.out
  go_wp2_with fail
  try clear hav hbv hao1 hbo1 hao2 hbo2
  obtain ⟨z1, z2⟩ := set6 HNr.out HB.out (by omega) (.int .i64 fy) (.int .i64 (-fx)) (.int .i64 (fy * a - fx * b)) (.int .i64 (-ty)) (.int .i64 tx) (.int .i64 (tx * b - ty * a))
  refine bodyPost_ret (res_ct Try.results18 _ _ (w.heap.size + 1 + 1) 39 #[.int .i64 fy, .int .i64 (-fx), .int .i64 (fy * a - fx * b), .int .i64 (-ty), .int .i64 tx, .int .i64 (tx * b - ty * a)] (0, 0) _ rfl z1 Try.underlying39 rfl info_h26) rfl ?_
  exact ⟨by rw [HV.out, HN.out, if_pos rfl, show -ty * a - -tx * b = tx * b - ty * a by rw [Int.neg_mul, Int.neg_mul]; omega]; rfl, z2⟩
end Go.Proofs.Ytpaihnjgpookjaa
