/- Package circle: Halves. -/
import Derived.Test.YtpaihnjgpookjaaCA6
set_option linter.unusedVariables false
set_option linter.unusedSimpArgs false
namespace Go.Proofs.Ytpaihnjgpookjaa
open Go Go.RowKit

theorem vc_bd (n : Int) : (-450 ≤ vcX n ∧ vcX n ≤ 450) ∧ -450 ≤ vcY n ∧ vcY n ≤ 450 := by
  have h1 := Int.emod_nonneg (n + 450) (show (3600 : Int) ≠ 0 by decide)
  have h2 := Int.emod_lt_of_pos (n + 450) (show (0 : Int) < 3600 by decide)
  unfold vcX vcY
  generalize (n + 450) % 3600 = m at *
  refine ⟨?_, ?_⟩
  · split
    · omega
    · split
      · omega
      · split <;> omega
  · split
    · omega
    · split
      · omega
      · split <;> omega
/-! Halves. -/
def hvB (f t a b : Int) : Bool := vwB f t && !(f == t) && omB a b
/-- The two half-planes of a wedge. -/
def hvV (f t a b : Int) : Value :=
  if hvB f t a b = true then .agg #[.int .i64 (vcY f), .int .i64 (-vcX f), .int .i64 (vcY f * a - vcX f * b), .int .i64 (-vcY t), .int .i64 (vcX t), .int .i64 (-vcY t * a - -vcX t * b)]
  else .agg #[.int .i64 0, .int .i64 0, .int .i64 0, .int .i64 0, .int .i64 0, .int .i64 0]
theorem info_h26 : (Try.prog.info? 39).map (·.size) = some 6 := by kernel_rfl
theorem set6 {w W : World} {q : Nat} {t : TypeId} {x1 x2 x3 x4 x5 x6 : Value} (h : W.heap[q]? = some (Obj.cells #[x1, x2, x3, x4, x5, x6] t (0, 0))) (hb : Below w.heap.size w W) (hq : w.heap.size ≤ q) (a b c d e f : Value) :
    ((((((W.setCell ⟨q, 0, none⟩ a).setCell ⟨q, 1, none⟩ b).setCell ⟨q, 2, none⟩ c).setCell ⟨q, 3, none⟩ d).setCell ⟨q, 4, none⟩ e).setCell ⟨q, 5, none⟩ f).heap[q]? = some (Obj.cells #[a, b, c, d, e, f] t (0, 0)) ∧ Below w.heap.size w ((((((W.setCell ⟨q, 0, none⟩ a).setCell ⟨q, 1, none⟩ b).setCell ⟨q, 2, none⟩ c).setCell ⟨q, 3, none⟩ d).setCell ⟨q, 4, none⟩ e).setCell ⟨q, 5, none⟩ f) :=
  ⟨heap_same (heap_same (heap_same (heap_same (heap_same (heap_same h 0 _) 1 _) 2 _) 3 _) 4 _) 5 _, (((((hb.setCell (p := ⟨q, 0, none⟩) hq _).setCell (p := ⟨q, 1, none⟩) hq _).setCell (p := ⟨q, 2, none⟩) hq _).setCell (p := ⟨q, 3, none⟩) hq _).setCell (p := ⟨q, 4, none⟩) hq _).setCell (p := ⟨q, 5, none⟩) hq _⟩
set_option maxRecDepth 100000 in
set_option maxHeartbeats 4000000 in
theorem Halves_any (f t a b : Int) (w : World) : Calls Try.prog 17 #[.agg #[.int .i64 f, .int .i64 t], .agg #[.int .i64 a, .int .i64 b]] w fun e w' => e = .returned (.tuple #[hvV f t a b, .bool (hvB f t a b)]) ∧ Below w.heap.size w w' := by
  have H1 := Lib.hid (fun w' => validWedge_any f t w')
  have H2 := Lib.hid (fun w' => onMap_any a b w')
  have H3 := Lib.hid (fun w' => Vector_any t w')
  have H4 := Lib.hid (fun w' => Vector_any f w')
  have HVF := Lib.hid (vc_bd f)
  have HVT := Lib.hid (vc_bd t)
  have HOM := Lib.hid (@om_iff a b)
  have HBB : Hid (hvB f t a b = (vwB f t && !(f == t) && omB a b)) := Lib.hid rfl
  have HV : Hid (hvV f t a b = _) := Lib.hid (hvV.eq_1 f t a b)
  obtain ⟨vw, hvw⟩ : ∃ z, vwB f t = z := ⟨_, rfl⟩
  obtain ⟨om, hom⟩ : ∃ z, omB a b = z := ⟨_, rfl⟩
  obtain ⟨B, hB⟩ : ∃ z, hvB f t a b = z := ⟨_, rfl⟩
  obtain ⟨V, hV⟩ : ∃ z, hvV f t a b = z := ⟨_, rfl⟩
  obtain ⟨fx, hfx⟩ : ∃ z, vcX f = z := ⟨_, rfl⟩
  obtain ⟨fy, hfy⟩ : ∃ z, vcY f = z := ⟨_, rfl⟩
  obtain ⟨tx, htx⟩ : ∃ z, vcX t = z := ⟨_, rfl⟩
  obtain ⟨ty, hty⟩ : ∃ z, vcY t = z := ⟨_, rfl⟩
  rw [hvw] at H1 HBB
  rw [hom] at H2 HBB HOM
  rw [hB] at HBB HV ⊢
  rw [hV] at HV ⊢
  rw [htx, hty] at H3 HVT
  rw [hfx, hfy] at H4 HVF
  rw [hfx, hfy, htx, hty] at HV
  have HA := Lib.hid (fun W' => cells3 w #[.int .i64 f, .int .i64 t] #[.int .i64 a, .int .i64 b] #[.int .i64 0, .int .i64 0, .int .i64 0, .int .i64 0, .int .i64 0, .int .i64 0] 23 25 39 (W := W'))
  have HB0 := Lib.hid (Below.refl (((w.alloc (.cells #[.int .i64 f, .int .i64 t] 23)).alloc (.cells #[.int .i64 a, .int .i64 b] 25)).alloc (.cells #[.int .i64 0, .int .i64 0, .int .i64 0, .int .i64 0, .int .i64 0, .int .i64 0] 39)).heap.size (((w.alloc (.cells #[.int .i64 f, .int .i64 t] 23)).alloc (.cells #[.int .i64 a, .int .i64 b] 25)).alloc (.cells #[.int .i64 0, .int .i64 0, .int .i64 0, .int .i64 0, .int .i64 0, .int .i64 0] 39)))
  obtain ⟨Z, hZ⟩ : ∃ Z, (((w.alloc (.cells #[.int .i64 f, .int .i64 t] 23)).alloc (.cells #[.int .i64 a, .int .i64 b] 25)).alloc (.cells #[.int .i64 0, .int .i64 0, .int .i64 0, .int .i64 0, .int .i64 0, .int .i64 0] 39)) = Z := ⟨_, rfl⟩
  rw [hZ] at HA HB0
  have HZ := Lib.hid hZ
  clear hZ hvw hom hB hV hfx hfy htx hty
  have HRD : Hid (∀ W', Below Z.heap.size Z W' → (W'.cell? ⟨w.heap.size, 0, none⟩ = some (.int .i64 f) ∧ W'.cell? ⟨w.heap.size, 1, none⟩ = some (.int .i64 t)) ∧ (W'.cell? ⟨w.heap.size + 1, 0, none⟩ = some (.int .i64 a) ∧ W'.cell? ⟨w.heap.size + 1, 1, none⟩ = some (.int .i64 b)) ∧ (W'.cell? ⟨w.heap.size + 1 + 1, 0, none⟩ = some (.int .i64 0) ∧ W'.cell? ⟨w.heap.size + 1 + 1, 1, none⟩ = some (.int .i64 0) ∧ W'.cell? ⟨w.heap.size + 1 + 1, 2, none⟩ = some (.int .i64 0) ∧ W'.cell? ⟨w.heap.size + 1 + 1, 3, none⟩ = some (.int .i64 0) ∧ W'.cell? ⟨w.heap.size + 1 + 1, 4, none⟩ = some (.int .i64 0) ∧ W'.cell? ⟨w.heap.size + 1 + 1, 5, none⟩ = some (.int .i64 0)) ∧ (∀ o, W'.frozen? ⟨w.heap.size + 1 + 1, o, none⟩ = false)) := Lib.hid (fun W' h => by
    obtain ⟨x1, x2, x3, _⟩ := HA.out W' h
    exact ⟨⟨cellH x1 0, cellH x1 1⟩, ⟨cellH x2 0, cellH x2 1⟩, ⟨cellH x3 0, cellH x3 1, cellH x3 2, cellH x3 3, cellH x3 4, cellH x3 5⟩, freeH x3⟩)
  go_enter Try.func17, Try.ntmps17
  go_wp2_with fail
  rw [HZ.out]
  refine (H1.out Z).mono ?_
  rintro e w1 ⟨rfl, hb⟩
  have HB1 := Lib.hid hb
  obtain ⟨⟨q0, q1⟩, ⟨p0, p1⟩, ⟨r0, r1, r2, r3, r4, r5⟩, rf⟩ := HRD.out w1 hb
  clear hb
  cases vw
  · have HN : Hid (B = false) := Lib.hid (by rw [HBB.out]; rfl)
    go_wp2_with fail
    obtain ⟨_, _, z0, _, zb⟩ := HA.out w1 HB1.out
    obtain ⟨z1, z2⟩ := set6 z0 zb (by omega) (.int .i64 0) (.int .i64 0) (.int .i64 0) (.int .i64 0) (.int .i64 0) (.int .i64 0)
    refine bodyPost_ret (res_ct Try.results17 _ _ (w.heap.size + 1 + 1) 39 #[.int .i64 0, .int .i64 0, .int .i64 0, .int .i64 0, .int .i64 0, .int .i64 0] (0, 0) _ rfl z1 Try.underlying39 rfl info_h26) rfl ?_
    exact ⟨by rw [HV.out, HN.out]; rfl, z2⟩
  by_cases hft : f = t
  · have HN : Hid (B = false) := Lib.hid (by rw [HBB.out, hft]; simp)
    have gft : (f == t) = true := by simpa using hft
    clear hft
    go_wp2_with fail
    obtain ⟨_, _, z0, _, zb⟩ := HA.out w1 HB1.out
    obtain ⟨z1, z2⟩ := set6 z0 zb (by omega) (.int .i64 0) (.int .i64 0) (.int .i64 0) (.int .i64 0) (.int .i64 0) (.int .i64 0)
    refine bodyPost_ret (res_ct Try.results17 _ _ (w.heap.size + 1 + 1) 39 #[.int .i64 0, .int .i64 0, .int .i64 0, .int .i64 0, .int .i64 0, .int .i64 0] (0, 0) _ rfl z1 Try.underlying39 rfl info_h26) rfl ?_
    exact ⟨by rw [HV.out, HN.out]; rfl, z2⟩
  have gft : (f == t) = false := by simpa using hft
  have HBO : Hid (B = om) := Lib.hid (by rw [HBB.out, gft]; simp)
  clear hft
  go_wp2_with fail
  refine (H2.out w1).mono ?_
  rintro e w2 ⟨rfl, hb⟩
  have HB2 := Lib.hid (HB1.out.trans (hb.mono HB1.out.size))
  clear hb q0 q1 p0 p1 r0 r1 r2 r3 r4 r5 rf
  obtain ⟨⟨q0, q1⟩, ⟨p0, p1⟩, ⟨r0, r1, r2, r3, r4, r5⟩, rf⟩ := HRD.out w2 HB2.out
  cases om
  · have HN : Hid (B = false) := Lib.hid HBO.out
    go_wp2_with fail
    obtain ⟨_, _, z0, _, zb⟩ := HA.out w2 HB2.out
    obtain ⟨z1, z2⟩ := set6 z0 zb (by omega) (.int .i64 0) (.int .i64 0) (.int .i64 0) (.int .i64 0) (.int .i64 0) (.int .i64 0)
    refine bodyPost_ret (res_ct Try.results17 _ _ (w.heap.size + 1 + 1) 39 #[.int .i64 0, .int .i64 0, .int .i64 0, .int .i64 0, .int .i64 0, .int .i64 0] (0, 0) _ rfl z1 Try.underlying39 rfl info_h26) rfl ?_
    exact ⟨by rw [HV.out, HN.out]; rfl, z2⟩
  have HN : Hid (B = true) := Lib.hid HBO.out
  obtain ⟨om1, om2⟩ := HOM.out.1 rfl
  have HL1 := Lib.hid (fun w' => leftOf_any fx fy a b w' HVF.out.1 HVF.out.2 om1 om2)
  have HL2 := Lib.hid (fun w' => leftOf_any (-tx) (-ty) a b w' (by have := HVT.out; omega) (by have := HVT.out; omega) om1 om2)
  have hvt := HVT.out
  have e1 : IntKind.i64.wrap (-tx) = -tx := IntWalk.i64_in _ (by omega)
  have e2 : IntKind.i64.wrap (-ty) = -ty := IntWalk.i64_in _ (by omega)
  clear om1 om2 hvt
  go_wp2_with fail
  refine (H3.out w2).mono ?_
  rintro e w3 ⟨rfl, hb⟩
  have hY := cells1 w3 #[.int .i64 tx, .int .i64 ty] 25 (Below.refl _ _)
  have HBY := Lib.hid (HB2.out.trans ((hb.trans (hY.2.2.mono hb.size)).mono HB2.out.size))
  have HQY := Lib.hid hY.1
  obtain ⟨y, hy⟩ : ∃ y, w3.heap.size = y := ⟨_, rfl⟩
  rw [hy] at HQY
  obtain ⟨Y, hYY⟩ : ∃ Y, w3.alloc (.cells #[.int .i64 tx, .int .i64 ty] 25) = Y := ⟨_, rfl⟩
  rw [hYY] at HBY HQY
  have HYY := Lib.hid hYY
  have HLY : Hid (y < Y.heap.size) := Lib.hid (Array.getElem?_eq_some_iff.1 HQY.out).1
  have HRY : Hid (∀ W', Below Y.heap.size Y W' → (W'.cell? ⟨w.heap.size, 0, none⟩ = some (.int .i64 f) ∧ W'.cell? ⟨w.heap.size + 1, 0, none⟩ = some (.int .i64 a) ∧ W'.cell? ⟨w.heap.size + 1, 1, none⟩ = some (.int .i64 b) ∧ W'.cell? ⟨y, 0, none⟩ = some (.int .i64 tx) ∧ W'.cell? ⟨y, 1, none⟩ = some (.int .i64 ty))) := Lib.hid (fun W' h => by
    obtain ⟨⟨x1, _⟩, ⟨x2, x3⟩, _⟩ := HRD.out W' (HBY.out.trans (h.mono HBY.out.size))
    have h2 := (h.block _ HLY.out).trans HQY.out
    exact ⟨x1, x2, x3, cellH h2 0, cellH h2 1⟩)
  have C4 := Lib.hid (upC (Z := Y) H4.out)
  have C5 := Lib.hid (upC (Z := Y) HL1.out)
  have C6 := Lib.hid (upC (Z := Y) HL2.out)
  clear hb hY hYY q0 q1 p0 p1 r0 r1 r2 r3 r4 r5 rf gft
  go_wp2_with fail
  rw [HYY.out]
  refine wp_region_turn 15 (fun _ w' => Below Y.heap.size Y w') (by kernel_rfl) (by kernel_rfl) ((Below.refl _ Y).drew) ?_
  simp only [List.take_succ_cons, List.take_zero, List.drop_succ_cons, List.drop_zero]
  iterate 15
    (first
      | (apply turnC_step (by rfl); (intro w' hw'; obtain ⟨q0, q1, q2, q3, q4⟩ := HRY.out w' hw'; go_simp; first | with_reducible exact ⟨hw', congrArg (Value.int .i64) e1⟩ | with_reducible exact ⟨hw', congrArg (Value.int .i64) e2⟩ | with_reducible exact ⟨hw', rfl⟩ | with_reducible exact rfl))
      | (apply turnC_step (by rfl); (intro w' hw'; go_simp; first | with_reducible exact C4.out w' hw' | with_reducible exact C5.out w' hw' | with_reducible exact C6.out w' hw')))
    simp only [Act.put, List.setIfInBounds_toArray, List.set_cons_succ, List.set_cons_zero]
  intro listed w5 _ hw5
  have HB5 := Lib.hid (HBY.out.trans (hw5.mono HBY.out.size))
  obtain ⟨⟨q0, q1⟩, ⟨p0, p1⟩, ⟨r0, r1, r2, r3, r4, r5⟩, rf⟩ := HRD.out w5 HB5.out
  clear hw5
  go_wp2_with fail
  obtain ⟨_, _, z0, _, zb⟩ := HA.out w5 HB5.out
  obtain ⟨z1, z2⟩ := set6 z0 zb (by omega) (.int .i64 fy) (.int .i64 (-fx)) (.int .i64 (fy * a - fx * b)) (.int .i64 (-ty)) (.int .i64 tx) (.int .i64 (-ty * a - -tx * b))
  refine bodyPost_ret (res_ct Try.results17 _ _ (w.heap.size + 1 + 1) 39 #[.int .i64 fy, .int .i64 (-fx), .int .i64 (fy * a - fx * b), .int .i64 (-ty), .int .i64 tx, .int .i64 (-ty * a - -tx * b)] (0, 0) _ rfl z1 Try.underlying39 rfl info_h26) rfl ?_
  exact ⟨by rw [HV.out, HN.out]; rfl, z2⟩
end Go.Proofs.Ytpaihnjgpookjaa
