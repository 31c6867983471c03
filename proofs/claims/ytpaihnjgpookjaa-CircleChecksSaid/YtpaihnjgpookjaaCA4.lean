/- Package circle and its reference: Division of both, floor, Toward, bearing. -/
import Derived.Test.YtpaihnjgpookjaaCA3
set_option linter.unusedVariables false
set_option linter.unusedSimpArgs false
namespace Go.Proofs.Ytpaihnjgpookjaa
open Go Go.RowKit

/-- The division of a direction. -/
def dvV (a b c d : Int) : Value := .tuple #[.int .i64 (brDn a b c d), .bool (brB a b c d)]
set_option maxRecDepth 100000 in
theorem Division_any (a b c d : Int) (w : World) : Calls Try.prog 29 #[.agg #[.int .i64 a, .int .i64 b], .agg #[.int .i64 c, .int .i64 d]] w fun e w' => e = .returned (dvV a b c d) ∧ Below w.heap.size w w' := by
  have HC := Lib.hid (fun w' => bearingOf_any a b c d w')
  have HA := Lib.hid (fun W' => two_cells w #[.int .i64 a, .int .i64 b] #[.int .i64 c, .int .i64 d] 25 25 (W := W'))
  have HB0 := Lib.hid (Below.refl ((w.alloc (.cells #[.int .i64 a, .int .i64 b] 25)).alloc (.cells #[.int .i64 c, .int .i64 d] 25)).heap.size ((w.alloc (.cells #[.int .i64 a, .int .i64 b] 25)).alloc (.cells #[.int .i64 c, .int .i64 d] 25)))
  unfold dvV
  obtain ⟨dn, hdn⟩ : ∃ z, brDn a b c d = z := ⟨_, rfl⟩
  obtain ⟨up, hup⟩ : ∃ z, brUp a b c d = z := ⟨_, rfl⟩
  obtain ⟨ok, hok⟩ : ∃ z, brB a b c d = z := ⟨_, rfl⟩
  rw [hdn, hup, hok] at HC
  rw [hdn, hok]
  obtain ⟨Z, hZ⟩ : ∃ Z, (w.alloc (.cells #[.int .i64 a, .int .i64 b] 25)).alloc (.cells #[.int .i64 c, .int .i64 d] 25) = Z := ⟨_, rfl⟩
  rw [hZ] at HA HB0
  have HZ := Lib.hid hZ
  clear hZ hdn hup hok
  go_enter Try.func29, Try.ntmps29
  go_wp2_with fail
  rw [HZ.out]
  refine (HC.out Z).mono ?_
  rintro e w1 ⟨rfl, hb⟩
  have HB1 := Lib.hid (HA.out _ (hb.alloc hb.size (.cells #[.int .i64 dn, .int .i64 up] 90)))
  clear hb
  go_wp2_with fail
  refine bodyPost_ret (results_tmp2 Try.results29 _ _ _) rfl ?_
  exact ⟨rfl, HB1.out.2.2.2⟩
theorem floor_core {a b : Int} (hb : 0 < b) : a / b = if a.tmod b < 0 then a.tdiv b - 1 else a.tdiv b := by
  have h1 := Int.tdiv_mul_add_tmod a b
  have h2 := Int.ediv_mul_add_emod a b
  have h3 := Int.emod_nonneg a (show b ≠ 0 by omega)
  have h4 := Int.emod_lt_of_pos a hb
  have h5 : -b < a.tmod b ∧ a.tmod b < b := by
    have h : (a.tmod b).natAbs < b.natAbs := by rw [Int.natAbs_tmod]; exact Nat.mod_lt _ (by omega)
    omega
  generalize a / b = q at *
  generalize a.tdiv b = t at *
  generalize a % b = r at *
  generalize a.tmod b = s at *
  have h6 : (q - t) * b = s - r := by rw [Int.sub_mul]; omega
  have hlt : -2 < q - t := by
    rcases Int.lt_or_le (-2) (q - t) with h | h
    · exact h
    · exfalso
      have := Int.mul_le_mul_of_nonneg_right h (show 0 ≤ b by omega)
      omega
  have hgt : q - t < 1 := by
    rcases Int.lt_or_le (q - t) 1 with h | h
    · exact h
    · exfalso
      have := Int.mul_le_mul_of_nonneg_right h (show 0 ≤ b by omega)
      omega
  split
  · rcases (by omega : q - t = 0 ∨ q - t = -1) with h | h
    · rw [h] at h6; omega
    · omega
  · rcases (by omega : q - t = 0 ∨ q - t = -1) with h | h
    · omega
    · rw [h] at h6; omega
theorem info_pb2 : (Try.prog.info? 71).map (·.size) = some 2 := by kernel_rfl
set_option maxRecDepth 100000 in
set_option maxHeartbeats 2000000 in
theorem pToward_any (x y : Int) (w : World) (hx : -48 ≤ x ∧ x ≤ 48) (hy : -48 ≤ y ∧ y ≤ 48) (h0 : ¬ (x = 0 ∧ y = 0)) :
    Calls Try.prog 79 #[.int .i64 x, .int .i64 y] w fun e w' => e = .returned (.agg #[.int .i64 (twN x y), .int .i64 (twD x y)]) ∧ Below w.heap.size w w' := by
  have HX := Lib.hid (fun n m : Int => two_cells w #[.int .i64 n, .int .i64 m] #[.int .i64 n, .int .i64 m] 71 71 (Below.refl _ _))
  have hok := tw_ok hx hy h0
  have HN : Hid (twN x y = if twM x y < 0 then twM x y + 3600 * twD x y else twM x y) := Lib.hid rfl
  have HD : Hid (twD x y = max (max x (-x)) (max y (-y))) := Lib.hid rfl
  have HM : Hid (twM x y = if max y (-y) ≤ x then 450 * y else if max x (-x) ≤ y then 900 * y - 450 * x else if max y (-y) ≤ -x then 1800 * max x (-x) - 450 * y else 2700 * max y (-y) + 450 * x) := Lib.hid rfl
  have HOK := Lib.hid hok
  have e1 : IntKind.i64.wrap (-x) = -x := IntWalk.i64_in _ (by omega)
  have e2 : IntKind.i64.wrap (-y) = -y := IntWalk.i64_in _ (by omega)
  have HR := Lib.hid (show (-48 ≤ x ∧ x ≤ 48) ∧ -48 ≤ y ∧ y ≤ 48 from ⟨hx, hy⟩)
  obtain ⟨ax, hax⟩ : ∃ z, max x (-x) = z := ⟨_, rfl⟩
  obtain ⟨ay, hay⟩ : ∃ z, max y (-y) = z := ⟨_, rfl⟩
  have hb : 0 ≤ ax ∧ ax ≤ 48 ∧ 0 ≤ ay ∧ ay ≤ 48 := by omega
  rw [hax, hay] at HD HM
  have f1 : IntKind.i64.wrap (450 * x) = 450 * x := IntWalk.i64_in _ (by omega)
  have f2 : IntKind.i64.wrap (450 * y) = 450 * y := IntWalk.i64_in _ (by omega)
  have f3 : IntKind.i64.wrap (900 * y) = 900 * y := IntWalk.i64_in _ (by omega)
  have f4 : IntKind.i64.wrap (1800 * ax) = 1800 * ax := IntWalk.i64_in _ (by omega)
  have f5 : IntKind.i64.wrap (2700 * ay) = 2700 * ay := IntWalk.i64_in _ (by omega)
  have f6 : IntKind.i64.wrap (900 * y - 450 * x) = 900 * y - 450 * x := IntWalk.i64_in _ (by omega)
  have f7 : IntKind.i64.wrap (1800 * ax - 450 * y) = 1800 * ax - 450 * y := IntWalk.i64_in _ (by omega)
  have f8 : IntKind.i64.wrap (2700 * ay + 450 * x) = 2700 * ay + 450 * x := IntWalk.i64_in _ (by omega)
  have f9 : IntKind.i64.wrap (3600 * x) = 3600 * x := IntWalk.i64_in _ (by omega)
  have f10 : IntKind.i64.wrap (450 * y + 3600 * x) = 450 * y + 3600 * x := IntWalk.i64_in _ (by omega)
  have HAX := Lib.hid (show max x (-x) = ax ∧ max y (-y) = ay from ⟨hax, hay⟩)
  clear hok hx hy h0 hb
  by_cases c1 : ay ≤ x
  · by_cases c5 : 450 * y < 0
    · have HV : Hid (twN x y = 450 * y + 3600 * x ∧ twD x y = x) := Lib.hid (by
        have h1 := HAX.out; have h2 := HM.out; have h3 := HD.out; have h4 := HN.out
        rw [if_pos c1] at h2
        have h5 : twD x y = x := by omega
        rw [h2, if_pos c5, h5] at h4
        exact ⟨h4, h5⟩)
      go_enter Try.func79, Try.ntmps79
      go_wp2_with fail
      refine bodyPost_ret (results_cell_row Try.results79 _ _ w.heap.size 71 #[.int .i64 (450 * y + 3600 * x), .int .i64 (x)] (0, 0) _ rfl (HX.out (450 * y + 3600 * x) (x)).1 Try.underlying71 rfl info_pb2) rfl ?_
      exact ⟨by rw [HV.out.1, HV.out.2], (HX.out (450 * y + 3600 * x) (x)).2.2.2⟩
    · have HV : Hid (twN x y = 450 * y ∧ twD x y = x) := Lib.hid (by
        have h1 := HAX.out; have h2 := HM.out; have h3 := HD.out; have h4 := HN.out
        rw [if_pos c1] at h2
        have h5 : twD x y = x := by omega
        rw [h2, if_neg c5] at h4
        exact ⟨h4, h5⟩)
      go_enter Try.func79, Try.ntmps79
      go_wp2_with fail
      refine bodyPost_ret (results_cell_row Try.results79 _ _ w.heap.size 71 #[.int .i64 (450 * y), .int .i64 (x)] (0, 0) _ rfl (HX.out (450 * y) (x)).1 Try.underlying71 rfl info_pb2) rfl ?_
      exact ⟨by rw [HV.out.1, HV.out.2], (HX.out (450 * y) (x)).2.2.2⟩
  · by_cases c2 : ax ≤ y
    · have c5 : ¬ 900 * y - 450 * x < 0 := by have h1 := HAX.out; have h2 := HR.out; omega
      have HV : Hid (twN x y = 900 * y - 450 * x ∧ twD x y = y) := Lib.hid (by
        have h1 := HAX.out; have h2 := HM.out; have h3 := HD.out; have h4 := HN.out
        rw [if_neg c1, if_pos c2] at h2
        have h5 : twD x y = y := by omega
        rw [h2, if_neg c5] at h4
        exact ⟨h4, h5⟩)
      go_enter Try.func79, Try.ntmps79
      go_wp2_with fail
      refine bodyPost_ret (results_cell_row Try.results79 _ _ w.heap.size 71 #[.int .i64 (900 * y - 450 * x), .int .i64 (y)] (0, 0) _ rfl (HX.out (900 * y - 450 * x) (y)).1 Try.underlying71 rfl info_pb2) rfl ?_
      exact ⟨by rw [HV.out.1, HV.out.2], (HX.out (900 * y - 450 * x) (y)).2.2.2⟩
    · by_cases c3 : ay ≤ -x
      · have c5 : ¬ 1800 * ax - 450 * y < 0 := by have h1 := HAX.out; have h2 := HR.out; omega
        have HV : Hid (twN x y = 1800 * ax - 450 * y ∧ twD x y = ax) := Lib.hid (by
          have h1 := HAX.out; have h2 := HM.out; have h3 := HD.out; have h4 := HN.out
          rw [if_neg c1, if_neg c2, if_pos c3] at h2
          have h5 : twD x y = ax := by omega
          rw [h2, if_neg c5] at h4
          exact ⟨h4, h5⟩)
        go_enter Try.func79, Try.ntmps79
        go_wp2_with fail
        refine bodyPost_ret (results_cell_row Try.results79 _ _ w.heap.size 71 #[.int .i64 (1800 * ax - 450 * y), .int .i64 (ax)] (0, 0) _ rfl (HX.out (1800 * ax - 450 * y) (ax)).1 Try.underlying71 rfl info_pb2) rfl ?_
        exact ⟨by rw [HV.out.1, HV.out.2], (HX.out (1800 * ax - 450 * y) (ax)).2.2.2⟩
      · have c5 : ¬ 2700 * ay + 450 * x < 0 := by have h1 := HAX.out; have h2 := HR.out; omega
        have HV : Hid (twN x y = 2700 * ay + 450 * x ∧ twD x y = ay) := Lib.hid (by
          have h1 := HAX.out; have h2 := HM.out; have h3 := HD.out; have h4 := HN.out
          rw [if_neg c1, if_neg c2, if_neg c3] at h2
          have h5 : twD x y = ay := by omega
          rw [h2, if_neg c5] at h4
          exact ⟨h4, h5⟩)
        go_enter Try.func79, Try.ntmps79
        go_wp2_with fail
        refine bodyPost_ret (results_cell_row Try.results79 _ _ w.heap.size 71 #[.int .i64 (2700 * ay + 450 * x), .int .i64 (ay)] (0, 0) _ rfl (HX.out (2700 * ay + 450 * x) (ay)).1 Try.underlying71 rfl info_pb2) rfl ?_
        exact ⟨by rw [HV.out.1, HV.out.2], (HX.out (2700 * ay + 450 * x) (ay)).2.2.2⟩
set_option maxRecDepth 100000 in
set_option maxHeartbeats 2000000 in
theorem pbearing_any (a b c d : Int) (w : World) : Calls Try.prog 45 #[.agg #[.int .i64 a, .int .i64 b], .agg #[.int .i64 c, .int .i64 d]] w fun e w' => e = .returned (.tuple #[.agg #[.int .i64 (if brB a b c d = true then twN (c - a) (d - b) else 0), .int .i64 (if brB a b c d = true then twD (c - a) (d - b) else 0)], .bool (brB a b c d)]) ∧ Below w.heap.size w w' := by
  have H1 := Lib.hid (fun w' => pOn_any a b w')
  have H2 := Lib.hid (fun w' => pOn_any c d w')
  have HBO := Lib.hid (brB_ok (a := a) (b := b) (c := c) (d := d))
  have HBB : Hid (brB a b c d = (omB a b && omB c d && !(a == c && b == d))) := Lib.hid rfl
  obtain ⟨b1, hb1⟩ : ∃ z, omB a b = z := ⟨_, rfl⟩
  obtain ⟨b2, hb2⟩ : ∃ z, omB c d = z := ⟨_, rfl⟩
  obtain ⟨b3, hb3⟩ : ∃ z, (a == c && b == d) = z := ⟨_, rfl⟩
  obtain ⟨ok, hok⟩ : ∃ z, brB a b c d = z := ⟨_, rfl⟩
  obtain ⟨nu, hnu⟩ : ∃ z, (if brB a b c d = true then twN (c - a) (d - b) else 0) = z := ⟨_, rfl⟩
  obtain ⟨de, hde⟩ : ∃ z, (if brB a b c d = true then twD (c - a) (d - b) else 0) = z := ⟨_, rfl⟩
  rw [hnu, hde]
  rw [hb1] at H1 HBB
  rw [hb2] at H2 HBB
  rw [hb3] at HBB
  rw [hok] at HBO HBB hnu hde ⊢
  have HNU := Lib.hid hnu
  have HDE := Lib.hid hde
  have HB3 := Lib.hid hb3
  clear hb1 hb2 hb3 hok hnu hde
  have HA := Lib.hid (fun W' => cells3 w #[.int .i64 a, .int .i64 b] #[.int .i64 c, .int .i64 d] #[.int .i64 0, .int .i64 0] 25 25 71 (W := W'))
  have HB0 := Lib.hid (Below.refl (((w.alloc (.cells #[.int .i64 a, .int .i64 b] 25)).alloc (.cells #[.int .i64 c, .int .i64 d] 25)).alloc (.cells #[.int .i64 0, .int .i64 0] 71)).heap.size (((w.alloc (.cells #[.int .i64 a, .int .i64 b] 25)).alloc (.cells #[.int .i64 c, .int .i64 d] 25)).alloc (.cells #[.int .i64 0, .int .i64 0] 71)))
  obtain ⟨Z, hZ⟩ : ∃ Z, (((w.alloc (.cells #[.int .i64 a, .int .i64 b] 25)).alloc (.cells #[.int .i64 c, .int .i64 d] 25)).alloc (.cells #[.int .i64 0, .int .i64 0] 71)) = Z := ⟨_, rfl⟩
  rw [hZ] at HA HB0
  have HZ := Lib.hid hZ
  clear hZ
  have HFIN : Hid (∀ W', Below Z.heap.size Z W' → W'.cell? ⟨w.heap.size, 0, none⟩ = some (.int .i64 a) ∧ W'.cell? ⟨w.heap.size, 1, none⟩ = some (.int .i64 b) ∧ W'.cell? ⟨w.heap.size + 1, 0, none⟩ = some (.int .i64 c) ∧ W'.cell? ⟨w.heap.size + 1, 1, none⟩ = some (.int .i64 d) ∧ W'.cell? ⟨w.heap.size + 1 + 1, 0, none⟩ = some (.int .i64 0) ∧ W'.cell? ⟨w.heap.size + 1 + 1, 1, none⟩ = some (.int .i64 0) ∧ (∀ o, W'.frozen? ⟨w.heap.size + 1 + 1, o, none⟩ = false) ∧ w.heap.size + 1 + 1 < W'.heap.size) := Lib.hid (fun W' h => by
    obtain ⟨x1, x2, x3, x4, x5⟩ := HA.out W' h
    exact ⟨cellH x1 0, cellH x1 1, cellH x2 0, cellH x2 1, cellH x3 0, cellH x3 1, freeH x3, x4⟩)
  go_enter Try.func45, Try.ntmps45
  go_wp2_with fail
  rw [HZ.out]
  refine (H1.out Z).mono ?_
  rintro e w1 ⟨rfl, hb⟩
  have HB1 := Lib.hid hb
  obtain ⟨q1, q2, q3, q4, q5, q6, q7, q8⟩ := HFIN.out w1 hb
  clear hb
  go_wp2_with fail
  refine (H2.out w1).mono ?_
  rintro e w2 ⟨rfl, hb⟩
  have HB2 := Lib.hid (HB1.out.trans (hb.mono HB1.out.size))
  clear hb q1 q2 q3 q4 q5 q6 q7 q8
  obtain ⟨q1, q2, q3, q4, q5, q6, q7, q8⟩ := HFIN.out w2 HB2.out
  cases b1
  · have HOK : Hid (ok = false) := Lib.hid (by rw [HBB.out]; rfl)
    go_wp2_with fail
    obtain ⟨_, _, z0, _, zb⟩ := HA.out w2 HB2.out
    obtain ⟨z1, z2⟩ := set2 z0 zb (by omega) (.int .i64 0) (.int .i64 0)
    refine bodyPost_ret (res_ct Try.results45 _ _ (w.heap.size + 1 + 1) 71 #[.int .i64 0, .int .i64 0] (0, 0) _ rfl z1 Try.underlying71 rfl info_pb2) rfl ?_
    exact ⟨by rw [← HNU.out, ← HDE.out, HOK.out]; rfl, z2⟩
  cases b2
  · have HOK : Hid (ok = false) := Lib.hid (by rw [HBB.out]; rfl)
    go_wp2_with fail
    obtain ⟨_, _, z0, _, zb⟩ := HA.out w2 HB2.out
    obtain ⟨z1, z2⟩ := set2 z0 zb (by omega) (.int .i64 0) (.int .i64 0)
    refine bodyPost_ret (res_ct Try.results45 _ _ (w.heap.size + 1 + 1) 71 #[.int .i64 0, .int .i64 0] (0, 0) _ rfl z1 Try.underlying71 rfl info_pb2) rfl ?_
    exact ⟨by rw [← HNU.out, ← HDE.out, HOK.out]; rfl, z2⟩
  cases b3
  case true =>
    have g3 := HB3.out
    rw [Bool.and_eq_true] at g3
    obtain ⟨g1, g2⟩ := g3
    have HOK : Hid (ok = false) := Lib.hid (by rw [HBB.out]; rfl)
    clear HB3
    go_wp2_with fail
    obtain ⟨_, _, z0, _, zb⟩ := HA.out w2 HB2.out
    obtain ⟨z1, z2⟩ := set2 z0 zb (by omega) (.int .i64 0) (.int .i64 0)
    refine bodyPost_ret (res_ct Try.results45 _ _ (w.heap.size + 1 + 1) 71 #[.int .i64 0, .int .i64 0] (0, 0) _ rfl z1 Try.underlying71 rfl info_pb2) rfl ?_
    exact ⟨by rw [← HNU.out, ← HDE.out, HOK.out]; rfl, z2⟩
  have HOK : Hid (ok = true) := Lib.hid (by rw [HBB.out]; rfl)
  obtain ⟨k1, k2, k3⟩ := HBO.out HOK.out
  obtain ⟨x, hx⟩ : ∃ x, c - a = x := ⟨_, rfl⟩
  obtain ⟨y, hy⟩ : ∃ y, d - b = y := ⟨_, rfl⟩
  rw [hx, hy] at HNU
  rw [hx, hy] at HDE
  have hx2 : -48 ≤ x ∧ x ≤ 48 := by omega
  have hy2 : -48 ≤ y ∧ y ≤ 48 := by omega
  have HTW := Lib.hid (fun w' => pToward_any x y w' hx2 hy2 (by omega))
  have e1 : IntKind.i64.wrap x = x := IntWalk.i64_in _ (by omega)
  have e2 : IntKind.i64.wrap y = y := IntWalk.i64_in _ (by omega)
  have HV : Hid (twN x y = nu ∧ twD x y = de) := Lib.hid (by rw [← HNU.out, ← HDE.out, HOK.out, if_pos rfl, if_pos rfl]; exact ⟨rfl, rfl⟩)
  rw [HV.out.1, HV.out.2] at HTW
  clear k1 k2 k3 hx2 hy2
  have hcase : ((a == c) = true ∧ (b == d) = false) ∨ (a == c) = false := by
    have g3 := HB3.out
    cases g1 : (a == c)
    · exact .inr rfl
    · rw [g1] at g3; exact .inl ⟨rfl, by simpa using g3⟩
  clear HB3
  rcases hcase with ⟨g1, g2⟩ | g1
  all_goals
    go_wp2_with fail
    refine (HTW.out w2).mono ?_
    rintro e w3 ⟨rfl, hb⟩
    have HB3 := Lib.hid (HB2.out.trans (hb.mono HB2.out.size))
    clear hb q1 q2 q3 q4 q5 q6 q7 q8
    obtain ⟨q1, q2, q3, q4, q5, q6, q7, q8⟩ := HFIN.out w3 HB3.out
    go_wp2_with fail
    obtain ⟨_, _, z0, _, zb⟩ := HA.out w3 HB3.out
    obtain ⟨z1, z2⟩ := set2 z0 zb (by omega) (.int .i64 nu) (.int .i64 de)
    refine bodyPost_ret (res_ct Try.results45 _ _ (w.heap.size + 1 + 1) 71 #[.int .i64 nu, .int .i64 de] (0, 0) _ rfl z1 Try.underlying71 rfl info_pb2) rfl ?_
    exact ⟨by rw [HOK.out]; rfl, z2⟩
end Go.Proofs.Ytpaihnjgpookjaa
