/- Package circle: Meet. -/
import Derived.Test.YtpaihnjgpookjaaCA7
import Derived.Test.YtpaihnjgpookjaaHI5
set_option linter.unusedVariables false
set_option linter.unusedSimpArgs false
namespace Go.Proofs.Ytpaihnjgpookjaa
open Go Go.RowKit

/-- How much of a wedge is left behind the beginning of another one. -/
def mtL (pf pt qf : Int) : Int := opI pf pt - (qf - pf) % 3600
def mtN : Value := .tuple #[.agg #[.int .i64 0, .int .i64 0], .bool false]
def mtK (pf pt qf qt : Int) : Value := if mtL pf pt qf < 0 then mtN else .tuple #[.agg #[.int .i64 qf, .int .i64 ((qf + min (mtL pf pt qf) (opI qf qt)) % 3600)], .bool true]
/-- What two wedges have in common. -/
def mtV (af at' bf bt : Int) : Value := if vwB af at' = true then (if vwB bf bt = true then (if opI af at' < (bf - af) % 3600 then mtK bf bt af at' else mtK af at' bf bt) else mtN) else mtN
theorem below_al {A B : World} (h : Below A.heap.size A B) (o : Obj) : Below A.heap.size A (B.alloc o) := h.alloc h.size o
theorem row_one {w : World} {t : TypeId} {A : Nat} (o : Int) (h : w.heap[A]? = some (.cells #[.int .i64 o] t (0, 0))) : INRow w (.slice (some ⟨A, 0, none⟩) 1 1) [o] := by
  refine .inr ⟨A, 0, 1, rfl, (Array.getElem?_eq_some_iff.1 h).1, fun i hi => ?_⟩
  obtain rfl : i = 0 := by simpa using hi
  exact cellH h 0
/-- The worlds and frames in the head of Meet's last region. -/
def MtInv (w5 : World) (p3 : Nat) (qf qt o2 lf mn T : Int) (u0 u1 u2 u4 u5 u7 u8 u9 u10 u11 u12 u13 u14 u15 u16 u17 u18 u19 u20 u21 u22 u23 u24 u25 u26 u27 u28 u29 u30 u31 u32 u33 u34 u35 u36 u37 u38 : Value) (listed : Array Bool) (a : Act) (w' : World) : Prop :=
  ∃ (l0 l1 l2 l3 l4 l5 l6 l7 l8 l9 l10 l11 : Bool) (A : Nat), listed = #[l0, l1, l2, l3, l4, l5, l6, l7, l8, l9, l10, l11, false, false] ∧ a = { tmps := #[u0, u1, u2, .pointer (some ⟨p3, 0, none⟩), u4, u5, .int .i64 lf, u7, u8, u9, u10, u11, u12, u13, u14, u15, u16, u17, u18, u19, u20, u21, u22, u23, u24, u25, u26, u27, u28, u29, u30, u31, u32, u33, u34, u35, u36, u37, u38, onlyIf l0 (.pointer (some ⟨p3, 0, none⟩)), onlyIf l1 (.int .i64 qf), onlyIf l2 (.pointer (some ⟨p3, 0, none⟩)), onlyIf l3 (.int .i64 qf), onlyIf l4 (.int .i64 lf), onlyIf l5 (.agg #[.int .i64 qf, .int .i64 qt]), onlyIf l6 (.int .i64 o2), onlyIf l7 (.slice (some ⟨A, 0, none⟩) 1 1), onlyIf l8 (.int .i64 mn), onlyIf l9 (.int .i64 (qf + mn)), onlyIf l10 (.int .i64 T), onlyIf l11 (.agg #[.int .i64 qf, .int .i64 T])], defers := [] } ∧ Below w5.heap.size w5 w' ∧ (l7 = true → w'.heap[A]? = some (.cells #[.int .i64 o2] 3 (0, 0)))
set_option maxRecDepth 100000 in
set_option maxHeartbeats 4000000 in
theorem Meet_any (af at' bf bt : Int) (w : World) : Calls Try.prog 8 #[.agg #[.int .i64 af, .int .i64 at'], .agg #[.int .i64 bf, .int .i64 bt]] w fun e w' => e = .returned (mtV af at' bf bt) ∧ Below w.heap.size w w' := by
  have H1 := Lib.hid (fun w' => validWedge_any af at' w')
  have H2 := Lib.hid (fun w' => validWedge_any bf bt w')
  have H3 := Lib.hid (fun w' => Opening_any af at' w')
  have H4 := Lib.hid (fun w' => Opening_any bf bt w')
  have HVA := Lib.hid (vw_ok (f := af) (t := at'))
  have HVB := Lib.hid (vw_ok (f := bf) (t := bt))
  have HV : Hid (mtV af at' bf bt = _) := Lib.hid (mtV.eq_1 af at' bf bt)
  obtain ⟨va, hva⟩ : ∃ z, vwB af at' = z := ⟨_, rfl⟩
  obtain ⟨vb, hvb⟩ : ∃ z, vwB bf bt = z := ⟨_, rfl⟩
  obtain ⟨V, hV⟩ : ∃ z, mtV af at' bf bt = z := ⟨_, rfl⟩
  rw [hva] at H1 HV HVA
  rw [hvb] at H2 HV HVB
  rw [hV] at HV ⊢
  clear hva hvb hV
  have HA := Lib.hid (fun W' => cells3 w #[.int .i64 af, .int .i64 at'] #[.int .i64 bf, .int .i64 bt] #[.int .i64 0, .int .i64 0] 23 23 23 (W := W'))
  have HB0 := Lib.hid (Below.refl (((w.alloc (.cells #[.int .i64 af, .int .i64 at'] 23)).alloc (.cells #[.int .i64 bf, .int .i64 bt] 23)).alloc (.cells #[.int .i64 0, .int .i64 0] 23)).heap.size (((w.alloc (.cells #[.int .i64 af, .int .i64 at'] 23)).alloc (.cells #[.int .i64 bf, .int .i64 bt] 23)).alloc (.cells #[.int .i64 0, .int .i64 0] 23)))
  obtain ⟨Z, hZ⟩ : ∃ Z, (((w.alloc (.cells #[.int .i64 af, .int .i64 at'] 23)).alloc (.cells #[.int .i64 bf, .int .i64 bt] 23)).alloc (.cells #[.int .i64 0, .int .i64 0] 23)) = Z := ⟨_, rfl⟩
  rw [hZ] at HA HB0
  have HZ := Lib.hid hZ
  clear hZ
  have HRD : Hid (∀ W', Below Z.heap.size Z W' → (W'.cell? ⟨w.heap.size, 0, none⟩ = some (.int .i64 af) ∧ W'.cell? ⟨w.heap.size, 1, none⟩ = some (.int .i64 at')) ∧ (W'.cell? ⟨w.heap.size + 1, 0, none⟩ = some (.int .i64 bf) ∧ W'.cell? ⟨w.heap.size + 1, 1, none⟩ = some (.int .i64 bt)) ∧ (W'.cell? ⟨w.heap.size + 1 + 1, 0, none⟩ = some (.int .i64 0) ∧ W'.cell? ⟨w.heap.size + 1 + 1, 1, none⟩ = some (.int .i64 0)) ∧ (∀ o, W'.frozen? ⟨w.heap.size + 1 + 1, o, none⟩ = false) ∧ (∀ o, W'.frozen? ⟨w.heap.size + 1, o, none⟩ = false) ∧ (∀ o, W'.frozen? ⟨w.heap.size, o, none⟩ = false)) := Lib.hid (fun W' h => by
    obtain ⟨x1, x2, x3, _⟩ := HA.out W' h
    exact ⟨⟨cellH x1 0, cellH x1 1⟩, ⟨cellH x2 0, cellH x2 1⟩, ⟨cellH x3 0, cellH x3 1⟩, freeH x3, freeH x2, freeH x1⟩)
  go_enter Try.func8, Try.ntmps8
  go_wp2_with fail
  rw [HZ.out]
  refine (H1.out Z).mono ?_
  rintro e w1 ⟨rfl, hb⟩
  have HB1 := Lib.hid hb
  obtain ⟨⟨q0, q1⟩, ⟨p0, p1⟩, ⟨r0, r1⟩, rf, rg, rh⟩ := HRD.out w1 hb
  clear hb
  cases va
  · go_wp2_with fail
    obtain ⟨_, _, z0, _, zb⟩ := HA.out w1 HB1.out
    obtain ⟨z1, z2⟩ := set2 z0 zb (by omega) (.int .i64 0) (.int .i64 0)
    refine bodyPost_ret (res_ct Try.results8 _ _ (w.heap.size + 1 + 1) 23 #[.int .i64 0, .int .i64 0] (0, 0) _ rfl z1 Try.underlying23 rfl info_we2) rfl ?_
    exact ⟨by rw [HV.out]; rfl, z2⟩
  go_wp2_with fail
  refine (H2.out w1).mono ?_
  rintro e w2 ⟨rfl, hb⟩
  have HB2 := Lib.hid (HB1.out.trans (hb.mono HB1.out.size))
  clear hb q0 q1 p0 p1 r0 r1 rf rg rh
  obtain ⟨⟨q0, q1⟩, ⟨p0, p1⟩, ⟨r0, r1⟩, rf, rg, rh⟩ := HRD.out w2 HB2.out
  cases vb
  · go_wp2_with fail
    obtain ⟨_, _, z0, _, zb⟩ := HA.out w2 HB2.out
    obtain ⟨z1, z2⟩ := set2 z0 zb (by omega) (.int .i64 0) (.int .i64 0)
    refine bodyPost_ret (res_ct Try.results8 _ _ (w.heap.size + 1 + 1) 23 #[.int .i64 0, .int .i64 0] (0, 0) _ rfl z1 Try.underlying23 rfl info_we2) rfl ?_
    exact ⟨by rw [HV.out]; rfl, z2⟩
  obtain ⟨a1, a2, a3, a4, a5⟩ := HVA.out (by trivial)
  obtain ⟨b1, b2, b3, b4, b5⟩ := HVB.out (by trivial)
  have HLIM := Lib.hid (show ((0 ≤ af ∧ af ≤ 3599) ∧ (0 ≤ at' ∧ at' ≤ 3599) ∧ 0 ≤ opI af at' ∧ opI af at' ≤ 900) ∧ (0 ≤ bf ∧ bf ≤ 3599) ∧ (0 ≤ bt ∧ bt ≤ 3599) ∧ 0 ≤ opI bf bt ∧ opI bf bt ≤ 900 from ⟨⟨a1, a2, a4, a5⟩, b1, b2, b4, b5⟩)
  have e1 : IntKind.i64.wrap (bf - af) = bf - af := IntWalk.i64_in _ (by omega)
  obtain ⟨oa, hoa⟩ : ∃ z, opI af at' = z := ⟨_, rfl⟩
  obtain ⟨m, hm⟩ : ∃ z, (bf - af) % 3600 = z := ⟨_, rfl⟩
  have HOA := Lib.hid hoa
  have HM := Lib.hid hm
  have C3 := Lib.hid (upC (Z := w2) H3.out)
  have CT := Lib.hid (upQ (Z := w2) (fun w' => qturn_any (bf - af) w'))
  rw [hoa] at C3
  rw [hm] at CT
  have HK2 : Hid (∀ W', Below w2.heap.size w2 W' → (W'.cell? ⟨w.heap.size, 0, none⟩ = some (.int .i64 af) ∧ W'.cell? ⟨w.heap.size, 1, none⟩ = some (.int .i64 at')) ∧ (W'.cell? ⟨w.heap.size + 1, 0, none⟩ = some (.int .i64 bf) ∧ W'.cell? ⟨w.heap.size + 1, 1, none⟩ = some (.int .i64 bt))) := Lib.hid (fun W' h => by
    have h1 := HRD.out W' (HB2.out.trans (h.mono HB2.out.size))
    exact ⟨h1.1, h1.2.1⟩)
  clear a1 a2 a3 a4 a5 b1 b2 b3 b4 b5 hoa hm
  go_wp2_with fail
  refine wp_region_turn 8 (fun _ w' => Below w2.heap.size w2 w') (by kernel_rfl) (by kernel_rfl) ((Below.refl _ w2).drew) ?_
  simp only [List.take_succ_cons, List.take_zero, List.drop_succ_cons, List.drop_zero]
  iterate 8
    (first
      | (apply turnC_step (by rfl); (intro w' hw'; obtain ⟨⟨q0, q1⟩, q2, q3⟩ := HK2.out w' hw'; go_simp; first | with_reducible exact ⟨hw', congrArg (Value.int .i64) e1⟩ | with_reducible exact ⟨hw', rfl⟩ | with_reducible exact rfl))
      | (apply turnC_step (by rfl); (intro w' hw'; go_simp; first | with_reducible exact C3.out w' hw' | with_reducible exact CT.out w' hw' | (rw [e1]; with_reducible exact CT.out w' hw'))))
    simp only [Act.put, List.setIfInBounds_toArray, List.set_cons_succ, List.set_cons_zero]
  intro listed w3 _ hw3
  have HB3 := Lib.hid (HB2.out.trans (hw3.mono HB2.out.size))
  clear hw3 q0 q1 p0 p1 r0 r1 rf rg rh e1
  obtain ⟨⟨q0, q1⟩, ⟨p0, p1⟩, ⟨r0, r1⟩, rf, rg, rh⟩ := HRD.out w3 HB3.out
  by_cases hsw : oa < m
  · have HVV : Hid (V = mtK bf bt af at') := Lib.hid (by rw [HV.out, HOA.out, HM.out]; simp only [if_true, if_pos hsw])
    obtain ⟨x1, x2, x3, x4, x5⟩ := HA.out w3 HB3.out
    have HX : Hid (∀ v0 v1 u0 u1 : Value, ((((w3.setCell ⟨w.heap.size, 0, none⟩ v0).setCell ⟨w.heap.size, 1, none⟩ v1).setCell ⟨w.heap.size + 1, 0, none⟩ u0).setCell ⟨w.heap.size + 1, 1, none⟩ u1).heap[w.heap.size]? = some (.cells #[v0, v1] 23 (0, 0)) ∧ ((((w3.setCell ⟨w.heap.size, 0, none⟩ v0).setCell ⟨w.heap.size, 1, none⟩ v1).setCell ⟨w.heap.size + 1, 0, none⟩ u0).setCell ⟨w.heap.size + 1, 1, none⟩ u1).heap[w.heap.size + 1]? = some (.cells #[u0, u1] 23 (0, 0)) ∧ ((((w3.setCell ⟨w.heap.size, 0, none⟩ v0).setCell ⟨w.heap.size, 1, none⟩ v1).setCell ⟨w.heap.size + 1, 0, none⟩ u0).setCell ⟨w.heap.size + 1, 1, none⟩ u1).heap[w.heap.size + 1 + 1]? = some (.cells #[.int .i64 0, .int .i64 0] 23 (0, 0)) ∧ Below w.heap.size w ((((w3.setCell ⟨w.heap.size, 0, none⟩ v0).setCell ⟨w.heap.size, 1, none⟩ v1).setCell ⟨w.heap.size + 1, 0, none⟩ u0).setCell ⟨w.heap.size + 1, 1, none⟩ u1)) := Lib.hid (fun v0 v1 u0 u1 => by
      refine ⟨?_, ?_, ?_, ?_⟩
      · exact (heap_other _ _ _ _ _ (by omega)).trans ((heap_other _ _ _ _ _ (by omega)).trans (heap_same (heap_same x1 0 _) 1 _))
      · exact heap_same (heap_same ((heap_other _ _ _ _ _ (by omega)).trans ((heap_other _ _ _ _ _ (by omega)).trans x2)) 0 _) 1 _
      · exact (heap_other _ _ _ _ _ (by omega)).trans ((heap_other _ _ _ _ _ (by omega)).trans ((heap_other _ _ _ _ _ (by omega)).trans ((heap_other _ _ _ _ _ (by omega)).trans x3)))
      · exact (((x5.setCell (p := ⟨w.heap.size, 0, none⟩) (by simp) _).setCell (p := ⟨w.heap.size, 1, none⟩) (by simp) _).setCell (p := ⟨w.heap.size + 1, 0, none⟩) (by simp) _).setCell (p := ⟨w.heap.size + 1, 1, none⟩) (by simp) _)
    clear x1 x2 x3 x4 x5
    go_wp2_with fail
    have hx := HX.out (.int .i64 bf) (.int .i64 bt) (.int .i64 af) (.int .i64 at')
    obtain ⟨w4, hw4⟩ : ∃ X, ((((w3.setCell ⟨w.heap.size, 0, none⟩ (.int .i64 bf)).setCell ⟨w.heap.size, 1, none⟩ (.int .i64 bt)).setCell ⟨w.heap.size + 1, 0, none⟩ (.int .i64 af)).setCell ⟨w.heap.size + 1, 1, none⟩ (.int .i64 at')) = X := ⟨_, rfl⟩
    rw [hw4] at hx ⊢
    obtain ⟨x1, x2, x3, x5⟩ := hx
    clear hw4 q0 q1 p0 p1 r0 r1 rf rg rh C3 CT HK2 HX
    have HKD : Hid (∀ W', Below w4.heap.size w4 W' → W'.heap[w.heap.size]? = some (.cells #[.int .i64 bf, .int .i64 bt] 23 (0, 0)) ∧ W'.heap[w.heap.size + 1]? = some (.cells #[.int .i64 af, .int .i64 at'] 23 (0, 0)) ∧ W'.heap[w.heap.size + 1 + 1]? = some (.cells #[.int .i64 0, .int .i64 0] 23 (0, 0)) ∧ Below w.heap.size w W') := Lib.hid (fun W' h => ⟨(h.block _ (Array.getElem?_eq_some_iff.1 x1).1).trans x1, (h.block _ (Array.getElem?_eq_some_iff.1 x2).1).trans x2, (h.block _ (Array.getElem?_eq_some_iff.1 x3).1).trans x3, x5.trans (h.mono x5.size)⟩)
    have HK4 : Hid (∀ W', Below w4.heap.size w4 W' → (W'.cell? ⟨w.heap.size, 0, none⟩ = some (.int .i64 bf) ∧ W'.cell? ⟨w.heap.size, 1, none⟩ = some (.int .i64 bt)) ∧ (W'.cell? ⟨w.heap.size + 1, 0, none⟩ = some (.int .i64 af) ∧ W'.cell? ⟨w.heap.size + 1, 1, none⟩ = some (.int .i64 at'))) := Lib.hid (fun W' h => by
      obtain ⟨y1, y2, _, _⟩ := HKD.out W' h
      exact ⟨⟨cellH y1 0, cellH y1 1⟩, cellH y2 0, cellH y2 1⟩)
    have hlim1 := HLIM.out.2
    have hlim2 := HLIM.out.1
    have e1 : IntKind.i64.wrap (af - bf) = af - bf := IntWalk.i64_in _ (by omega)
    have HO1 := Lib.hid H4.out
    have HO2 := Lib.hid H3.out
    have HLV : Hid (mtL bf bt af = opI bf bt - (af - bf) % 3600) := Lib.hid rfl
    obtain ⟨o1, ho1⟩ : ∃ z, opI bf bt = z := ⟨_, rfl⟩
    obtain ⟨o2, ho2⟩ : ∃ z, opI af at' = z := ⟨_, rfl⟩
    obtain ⟨m2, hm2⟩ : ∃ z, (af - bf) % 3600 = z := ⟨_, rfl⟩
    obtain ⟨lf, hlf⟩ : ∃ z, o1 - m2 = z := ⟨_, rfl⟩
    rw [ho1] at HO1 HLV hlim1
    rw [ho2] at HO2 hlim2
    rw [hm2, hlf] at HLV
    have hm3 : 0 ≤ m2 ∧ m2 < 3600 := by omega
    have e2 : IntKind.i64.wrap lf = lf := IntWalk.i64_in _ (by omega)
    have HL3 := Lib.hid (show -3600 < lf ∧ lf ≤ 900 by omega)
    have HOP2 := Lib.hid ho2
    have C3 := Lib.hid (upC (Z := w4) HO1.out)
    have CT := Lib.hid (upQ (Z := w4) (fun w' => qturn_any (af - bf) w'))
    rw [hm2] at CT
    have HQF := Lib.hid (show (0 ≤ af ∧ af ≤ 3599) ∧ 0 ≤ o2 ∧ o2 ≤ 900 from ⟨hlim2.1, hlim2.2.2⟩)
    clear x1 x2 x3 x5 hlim1 hlim2 ho1 ho2 hm2 hm3
    go_wp2_with fail
    refine wp_region_turn 9 (fun _ w' => Below w4.heap.size w4 w') (by kernel_rfl) (by kernel_rfl) ((Below.refl _ w4).drew) ?_
    simp only [List.take_succ_cons, List.take_zero, List.drop_succ_cons, List.drop_zero]
    iterate 9
      (first
        | (apply turnC_step (by rfl); (intro w' hw'; obtain ⟨⟨q0, q1⟩, q2, q3⟩ := HK4.out w' hw'; go_simp; first | with_reducible exact ⟨hw', congrArg (Value.int .i64) e1⟩ | (rw [hlf]; with_reducible exact ⟨hw', congrArg (Value.int .i64) e2⟩) | (rw [hlf]; with_reducible exact ⟨hw', rfl⟩) | with_reducible exact ⟨hw', rfl⟩ | with_reducible exact rfl))
        | (apply turnC_step (by rfl); (intro w' hw'; go_simp; first | with_reducible exact C3.out w' hw' | with_reducible exact CT.out w' hw' | (rw [e1]; with_reducible exact CT.out w' hw'))))
      simp only [Act.put, List.setIfInBounds_toArray, List.set_cons_succ, List.set_cons_zero]
    intro listed2 w5 _ hw5
    have HB5 := Lib.hid hw5
    clear hw5 e1 e2 hlf C3 CT
    obtain ⟨⟨q0, q1⟩, p0, p1⟩ := HK4.out w5 HB5.out
    have hy3 := (HKD.out w5 HB5.out).2.2.1
    have r0 := cellH hy3 0
    have r1 := cellH hy3 1
    have rf := freeH hy3
    simp only [List.getElem?_toArray, List.getElem?_cons_zero, List.getElem?_cons_succ] at r0 r1
    clear hy3
    by_cases hneg : lf < 0
    · have HVW : Hid (V = mtN) := Lib.hid (by rw [HVV.out]; unfold mtK; rw [HLV.out, if_pos hneg])
      go_wp2_with fail
      obtain ⟨_, _, z0, zb⟩ := HKD.out w5 HB5.out
      obtain ⟨z1, z2⟩ := set2 z0 zb (by omega) (.int .i64 0) (.int .i64 0)
      refine bodyPost_ret (res_ct Try.results8 _ _ (w.heap.size + 1 + 1) 23 #[.int .i64 0, .int .i64 0] (0, 0) _ rfl z1 Try.underlying23 rfl info_we2) rfl ?_
      exact ⟨by rw [HVW.out]; rfl, z2⟩
    · have HVW : Hid (V = .tuple #[.agg #[.int .i64 af, .int .i64 ((af + min lf o2) % 3600)], .bool true]) := Lib.hid (by rw [HVV.out]; unfold mtK; rw [HLV.out, if_neg hneg, HOP2.out])
      have hq := HQF.out
      have hl3 := HL3.out
      obtain ⟨mn, hmn⟩ : ∃ z, min lf o2 = z := ⟨_, rfl⟩
      have e3 : IntKind.i64.wrap (af + mn) = af + mn := IntWalk.i64_in _ (by omega)
      have HTU := Lib.hid (fun w' => qturn_any (af + mn) w')
      rw [hmn] at HVW
      obtain ⟨T, hT⟩ : ∃ z, (af + mn) % 3600 = z := ⟨_, rfl⟩
      rw [hT] at HTU HVW
      have HLE : Hid (∀ (w' : World) (A : Nat), w'.heap[A]? = some (.cells #[.int .i64 o2] 3 (0, 0)) → Calls Try.prog 32 #[.int .i64 lf, .slice (some ⟨A, 0, none⟩) 1 1] w' fun e w'' => e = .returned (.int .i64 mn) ∧ w'' = w') := Lib.hid (fun w' A hA => by
        have h := least_any lf _ [o2] w' (row_one o2 hA) (by simp)
        have he : minL lf [o2] = mn := hmn
        rwa [he] at h)
      have HKS : Hid (∀ W', Below w5.heap.size w5 W' → Below w5.heap.size w5 W' ∧ W'.cell? ⟨w.heap.size + 1, 0, none⟩ = some (.int .i64 af) ∧ W'.cell? ⟨w.heap.size + 1, 1, none⟩ = some (.int .i64 at')) := Lib.hid (fun W' h => ⟨h, (HK4.out W' (HB5.out.trans (h.mono HB5.out.size))).2⟩)
      clear hq hl3 hmn hT
      go_wp2_with fail
      refine wp_region_invtail 12 (by kernel_rfl) (by kernel_rfl) (by kernel_rfl) (by kernel_rfl) (of_decide_eq_true (by kernel_rfl)) (by kernel_rfl) (MtInv w5 (w.heap.size + 1) af at' o2 lf mn T _ _ _ _ _ _ _ _ _ _ _ _ _ _ _ _ _ _ _ _ _ _ _ _ _ _ _ _ _ _ _ _ _ _ _ _ _)
        ⟨false, false, false, false, false, false, false, false, false, false, false, false, 0, rfl, rfl, (Below.refl _ w5).drew, by simp⟩ ?hend ?hstep
      case hend =>
        rintro listed a w' ⟨l0, l1, l2, l3, l4, l5, l6, l7, l8, l9, l10, l11, A, rfl, rfl, hb, h7⟩ hall
        have hal : l0 = true ∧ l1 = true ∧ l2 = true ∧ l3 = true ∧ l4 = true ∧ l5 = true ∧ l6 = true ∧ l7 = true ∧ l8 = true ∧ l9 = true ∧ l10 = true ∧ l11 = true :=
          ⟨by simpa using hall 0 (by decide), by simpa using hall 1 (by decide), by simpa using hall 2 (by decide), by simpa using hall 3 (by decide), by simpa using hall 4 (by decide), by simpa using hall 5 (by decide), by simpa using hall 6 (by decide), by simpa using hall 7 (by decide), by simpa using hall 8 (by decide), by simpa using hall 9 (by decide), by simpa using hall 10 (by decide), by simpa using hall 11 (by decide)⟩
        obtain ⟨rfl, rfl, rfl, rfl, rfl, rfl, rfl, rfl, rfl, rfl, rfl, rfl⟩ := hal
        have HB9 := Lib.hid hb
        obtain ⟨_, _, z0, zb⟩ := HKD.out w' (HB5.out.trans (hb.mono HB5.out.size))
        have HZ0 := Lib.hid z0
        have HZB := Lib.hid zb
        have r0 := cellH z0 0
        have r1 := cellH z0 1
        have rf := freeH z0
        simp only [List.getElem?_toArray, List.getElem?_cons_zero, List.getElem?_cons_succ] at r0 r1
        clear hall h7 hb z0 zb e3
        simp only [onlyIf_true]
        simp only [List.drop_succ_cons, List.drop_zero]
        go_wp2_with fail
        obtain ⟨z1, z2⟩ := set2 HZ0.out HZB.out (by omega) (.int .i64 af) (.int .i64 T)
        refine bodyPost_ret (res_ct Try.results8 _ _ (w.heap.size + 1 + 1) 23 #[.int .i64 af, .int .i64 T] (0, 0) _ rfl z1 Try.underlying23 rfl info_we2) rfl ?_
        exact ⟨by rw [HVW.out]; rfl, z2⟩
      case hstep =>
        rintro listed a w' i ⟨l0, l1, l2, l3, l4, l5, l6, l7, l8, l9, l10, l11, A, rfl, rfl, hb, h7⟩ hi hin
        obtain ⟨hf, o', ho', hp⟩ := mem_ready.1 hi
        clear hi
        obtain ⟨_, q4, q5⟩ := HKS.out w' hb
        match i, hin with
        | 0, _ =>
          obtain rfl : l0 = false := by simpa using hf
          clear hp ho'
          unfold wpOp
          simp only [onlyIf_true]
          go_simp
          exact .inl ⟨true, l1, l2, l3, l4, l5, l6, l7, l8, l9, l10, l11, A, rfl, rfl, hb, h7⟩
        | 1, _ =>
          obtain rfl : l1 = false := by simpa using hf
          cases ho'
          obtain rfl : l0 = true := by simpa using hp ⟨0, .data⟩ (by simp) rfl
          clear hp
          unfold wpOp
          simp only [onlyIf_true]
          go_simp
          exact .inl ⟨true, true, l2, l3, l4, l5, l6, l7, l8, l9, l10, l11, A, rfl, rfl, hb, h7⟩
        | 2, _ =>
          obtain rfl : l2 = false := by simpa using hf
          clear hp ho'
          unfold wpOp
          simp only [onlyIf_true]
          go_simp
          exact .inl ⟨l0, l1, true, l3, l4, l5, l6, l7, l8, l9, l10, l11, A, rfl, rfl, hb, h7⟩
        | 3, _ =>
          obtain rfl : l3 = false := by simpa using hf
          cases ho'
          obtain rfl : l2 = true := by simpa using hp ⟨2, .data⟩ (by simp) rfl
          clear hp
          unfold wpOp
          simp only [onlyIf_true]
          go_simp
          exact .inl ⟨l0, l1, true, true, l4, l5, l6, l7, l8, l9, l10, l11, A, rfl, rfl, hb, h7⟩
        | 4, _ =>
          obtain rfl : l4 = false := by simpa using hf
          clear hp ho'
          unfold wpOp
          simp only [onlyIf_true]
          go_simp
          exact .inl ⟨l0, l1, l2, l3, true, l5, l6, l7, l8, l9, l10, l11, A, rfl, rfl, hb, h7⟩
        | 5, _ =>
          obtain rfl : l5 = false := by simpa using hf
          clear hp ho'
          unfold wpOp
          simp only [onlyIf_true]
          go_simp
          exact .inl ⟨l0, l1, l2, l3, l4, true, l6, l7, l8, l9, l10, l11, A, rfl, rfl, hb, h7⟩
        | 6, _ =>
          obtain rfl : l6 = false := by simpa using hf
          cases ho'
          obtain rfl : l5 = true := by simpa using hp ⟨5, .data⟩ (by simp) rfl
          clear hp
          unfold wpOp
          simp only [onlyIf_true]
          go_simp
          refine .inl ((HO2.out w').mono ?_)
          rintro e w9 ⟨rfl, hb9⟩
          exact ⟨l0, l1, l2, l3, l4, true, true, l7, l8, l9, l10, l11, A, rfl, rfl, hb.trans (hb9.mono hb.size), fun h => (hb9.block _ (Array.getElem?_eq_some_iff.1 (h7 h)).1).trans (h7 h)⟩
        | 7, _ =>
          obtain rfl : l7 = false := by simpa using hf
          cases ho'
          obtain rfl : l6 = true := by simpa using hp ⟨6, .data⟩ (by simp) rfl
          clear hp
          unfold wpOp
          simp only [onlyIf_true]
          go_simp
          exact .inl ⟨l0, l1, l2, l3, l4, l5, true, true, l8, l9, l10, l11, w'.heap.size, rfl, rfl, hb.alloc hb.size _, fun _ => heap_alloc_new _ _⟩
        | 8, _ =>
          obtain rfl : l8 = false := by simpa using hf
          cases ho'
          obtain rfl : l4 = true := by simpa using hp ⟨4, .data⟩ (by simp) rfl
          obtain rfl : l7 = true := by simpa using hp ⟨7, .data⟩ (by simp) rfl
          clear hp
          unfold wpOp
          simp only [onlyIf_true]
          go_simp
          refine .inl ((HLE.out w' A (h7 rfl)).mono ?_)
          rintro e w9 ⟨rfl, rfl⟩
          exact ⟨l0, l1, l2, l3, true, l5, l6, true, true, l9, l10, l11, A, rfl, rfl, hb, h7⟩
        | 9, _ =>
          obtain rfl : l9 = false := by simpa using hf
          cases ho'
          obtain rfl : l3 = true := by simpa using hp ⟨3, .data⟩ (by simp) rfl
          obtain rfl : l8 = true := by simpa using hp ⟨8, .data⟩ (by simp) rfl
          clear hp
          unfold wpOp
          simp only [onlyIf_true]
          go_simp
          exact .inl ⟨l0, l1, l2, true, l4, l5, l6, l7, true, true, l10, l11, A, rfl, rfl, hb, h7⟩
        | 10, _ =>
          obtain rfl : l10 = false := by simpa using hf
          cases ho'
          obtain rfl : l9 = true := by simpa using hp ⟨9, .data⟩ (by simp) rfl
          clear hp
          unfold wpOp
          simp only [onlyIf_true]
          go_simp
          refine .inl ((HTU.out w').mono ?_)
          rintro e w9 ⟨rfl, rfl⟩
          exact ⟨l0, l1, l2, l3, l4, l5, l6, l7, l8, true, true, l11, A, rfl, rfl, hb, h7⟩
        | 11, _ =>
          obtain rfl : l11 = false := by simpa using hf
          cases ho'
          obtain rfl : l1 = true := by simpa using hp ⟨1, .data⟩ (by simp) rfl
          obtain rfl : l10 = true := by simpa using hp ⟨10, .data⟩ (by simp) rfl
          clear hp
          unfold wpOp
          simp only [onlyIf_true]
          go_simp
          exact .inl ⟨l0, true, l2, l3, l4, l5, l6, l7, l8, l9, true, true, A, rfl, rfl, hb, h7⟩
  · have HVV : Hid (V = mtK af at' bf bt) := Lib.hid (by rw [HV.out, HOA.out, HM.out]; simp only [if_true, if_neg hsw])
    go_wp2_with fail
    obtain ⟨x1, x2, x3, _, x5⟩ := HA.out w3 HB3.out
    obtain ⟨w4, hw4⟩ : ∃ X, w3 = X := ⟨_, rfl⟩
    rw [hw4] at x1 x2 x3 x5 ⊢
    clear hw4 q0 q1 p0 p1 r0 r1 rf rg rh C3 CT HK2
    have HKD : Hid (∀ W', Below w4.heap.size w4 W' → W'.heap[w.heap.size]? = some (.cells #[.int .i64 af, .int .i64 at'] 23 (0, 0)) ∧ W'.heap[w.heap.size + 1]? = some (.cells #[.int .i64 bf, .int .i64 bt] 23 (0, 0)) ∧ W'.heap[w.heap.size + 1 + 1]? = some (.cells #[.int .i64 0, .int .i64 0] 23 (0, 0)) ∧ Below w.heap.size w W') := Lib.hid (fun W' h => ⟨(h.block _ (Array.getElem?_eq_some_iff.1 x1).1).trans x1, (h.block _ (Array.getElem?_eq_some_iff.1 x2).1).trans x2, (h.block _ (Array.getElem?_eq_some_iff.1 x3).1).trans x3, x5.trans (h.mono x5.size)⟩)
    have HK4 : Hid (∀ W', Below w4.heap.size w4 W' → (W'.cell? ⟨w.heap.size, 0, none⟩ = some (.int .i64 af) ∧ W'.cell? ⟨w.heap.size, 1, none⟩ = some (.int .i64 at')) ∧ (W'.cell? ⟨w.heap.size + 1, 0, none⟩ = some (.int .i64 bf) ∧ W'.cell? ⟨w.heap.size + 1, 1, none⟩ = some (.int .i64 bt))) := Lib.hid (fun W' h => by
      obtain ⟨y1, y2, _, _⟩ := HKD.out W' h
      exact ⟨⟨cellH y1 0, cellH y1 1⟩, cellH y2 0, cellH y2 1⟩)
    have hlim1 := HLIM.out.1
    have hlim2 := HLIM.out.2
    have e1 : IntKind.i64.wrap (bf - af) = bf - af := IntWalk.i64_in _ (by omega)
    have HO1 := Lib.hid H3.out
    have HO2 := Lib.hid H4.out
    have HLV : Hid (mtL af at' bf = opI af at' - (bf - af) % 3600) := Lib.hid rfl
    obtain ⟨o1, ho1⟩ : ∃ z, opI af at' = z := ⟨_, rfl⟩
    obtain ⟨o2, ho2⟩ : ∃ z, opI bf bt = z := ⟨_, rfl⟩
    obtain ⟨m2, hm2⟩ : ∃ z, (bf - af) % 3600 = z := ⟨_, rfl⟩
    obtain ⟨lf, hlf⟩ : ∃ z, o1 - m2 = z := ⟨_, rfl⟩
    rw [ho1] at HO1 HLV hlim1
    rw [ho2] at HO2 hlim2
    rw [hm2, hlf] at HLV
    have hm3 : 0 ≤ m2 ∧ m2 < 3600 := by omega
    have e2 : IntKind.i64.wrap lf = lf := IntWalk.i64_in _ (by omega)
    have HL3 := Lib.hid (show -3600 < lf ∧ lf ≤ 900 by omega)
    have HOP2 := Lib.hid ho2
    have C3 := Lib.hid (upC (Z := w4) HO1.out)
    have CT := Lib.hid (upQ (Z := w4) (fun w' => qturn_any (bf - af) w'))
    rw [hm2] at CT
    have HQF := Lib.hid (show (0 ≤ bf ∧ bf ≤ 3599) ∧ 0 ≤ o2 ∧ o2 ≤ 900 from ⟨hlim2.1, hlim2.2.2⟩)
    clear x1 x2 x3 x5 hlim1 hlim2 ho1 ho2 hm2 hm3
    go_wp2_with fail
    refine wp_region_turn 9 (fun _ w' => Below w4.heap.size w4 w') (by kernel_rfl) (by kernel_rfl) ((Below.refl _ w4).drew) ?_
    simp only [List.take_succ_cons, List.take_zero, List.drop_succ_cons, List.drop_zero]
    iterate 9
      (first
        | (apply turnC_step (by rfl); (intro w' hw'; obtain ⟨⟨q0, q1⟩, q2, q3⟩ := HK4.out w' hw'; go_simp; first | with_reducible exact ⟨hw', congrArg (Value.int .i64) e1⟩ | (rw [hlf]; with_reducible exact ⟨hw', congrArg (Value.int .i64) e2⟩) | (rw [hlf]; with_reducible exact ⟨hw', rfl⟩) | with_reducible exact ⟨hw', rfl⟩ | with_reducible exact rfl))
        | (apply turnC_step (by rfl); (intro w' hw'; go_simp; first | with_reducible exact C3.out w' hw' | with_reducible exact CT.out w' hw' | (rw [e1]; with_reducible exact CT.out w' hw'))))
      simp only [Act.put, List.setIfInBounds_toArray, List.set_cons_succ, List.set_cons_zero]
    intro listed2 w5 _ hw5
    have HB5 := Lib.hid hw5
    clear hw5 e1 e2 hlf C3 CT
    obtain ⟨⟨q0, q1⟩, p0, p1⟩ := HK4.out w5 HB5.out
    have hy3 := (HKD.out w5 HB5.out).2.2.1
    have r0 := cellH hy3 0
    have r1 := cellH hy3 1
    have rf := freeH hy3
    simp only [List.getElem?_toArray, List.getElem?_cons_zero, List.getElem?_cons_succ] at r0 r1
    clear hy3
    by_cases hneg : lf < 0
    · have HVW : Hid (V = mtN) := Lib.hid (by rw [HVV.out]; unfold mtK; rw [HLV.out, if_pos hneg])
      go_wp2_with fail
      obtain ⟨_, _, z0, zb⟩ := HKD.out w5 HB5.out
      obtain ⟨z1, z2⟩ := set2 z0 zb (by omega) (.int .i64 0) (.int .i64 0)
      refine bodyPost_ret (res_ct Try.results8 _ _ (w.heap.size + 1 + 1) 23 #[.int .i64 0, .int .i64 0] (0, 0) _ rfl z1 Try.underlying23 rfl info_we2) rfl ?_
      exact ⟨by rw [HVW.out]; rfl, z2⟩
    · have HVW : Hid (V = .tuple #[.agg #[.int .i64 bf, .int .i64 ((bf + min lf o2) % 3600)], .bool true]) := Lib.hid (by rw [HVV.out]; unfold mtK; rw [HLV.out, if_neg hneg, HOP2.out])
      have hq := HQF.out
      have hl3 := HL3.out
      obtain ⟨mn, hmn⟩ : ∃ z, min lf o2 = z := ⟨_, rfl⟩
      have e3 : IntKind.i64.wrap (bf + mn) = bf + mn := IntWalk.i64_in _ (by omega)
      have HTU := Lib.hid (fun w' => qturn_any (bf + mn) w')
      rw [hmn] at HVW
      obtain ⟨T, hT⟩ : ∃ z, (bf + mn) % 3600 = z := ⟨_, rfl⟩
      rw [hT] at HTU HVW
      have HLE : Hid (∀ (w' : World) (A : Nat), w'.heap[A]? = some (.cells #[.int .i64 o2] 3 (0, 0)) → Calls Try.prog 32 #[.int .i64 lf, .slice (some ⟨A, 0, none⟩) 1 1] w' fun e w'' => e = .returned (.int .i64 mn) ∧ w'' = w') := Lib.hid (fun w' A hA => by
        have h := least_any lf _ [o2] w' (row_one o2 hA) (by simp)
        have he : minL lf [o2] = mn := hmn
        rwa [he] at h)
      have HKS : Hid (∀ W', Below w5.heap.size w5 W' → Below w5.heap.size w5 W' ∧ W'.cell? ⟨w.heap.size + 1, 0, none⟩ = some (.int .i64 bf) ∧ W'.cell? ⟨w.heap.size + 1, 1, none⟩ = some (.int .i64 bt)) := Lib.hid (fun W' h => ⟨h, (HK4.out W' (HB5.out.trans (h.mono HB5.out.size))).2⟩)
      clear hq hl3 hmn hT
      go_wp2_with fail
      refine wp_region_invtail 12 (by kernel_rfl) (by kernel_rfl) (by kernel_rfl) (by kernel_rfl) (of_decide_eq_true (by kernel_rfl)) (by kernel_rfl) (MtInv w5 (w.heap.size + 1) bf bt o2 lf mn T _ _ _ _ _ _ _ _ _ _ _ _ _ _ _ _ _ _ _ _ _ _ _ _ _ _ _ _ _ _ _ _ _ _ _ _ _)
        ⟨false, false, false, false, false, false, false, false, false, false, false, false, 0, rfl, rfl, (Below.refl _ w5).drew, by simp⟩ ?hend ?hstep
      case hend =>
        rintro listed a w' ⟨l0, l1, l2, l3, l4, l5, l6, l7, l8, l9, l10, l11, A, rfl, rfl, hb, h7⟩ hall
        have hal : l0 = true ∧ l1 = true ∧ l2 = true ∧ l3 = true ∧ l4 = true ∧ l5 = true ∧ l6 = true ∧ l7 = true ∧ l8 = true ∧ l9 = true ∧ l10 = true ∧ l11 = true :=
          ⟨by simpa using hall 0 (by decide), by simpa using hall 1 (by decide), by simpa using hall 2 (by decide), by simpa using hall 3 (by decide), by simpa using hall 4 (by decide), by simpa using hall 5 (by decide), by simpa using hall 6 (by decide), by simpa using hall 7 (by decide), by simpa using hall 8 (by decide), by simpa using hall 9 (by decide), by simpa using hall 10 (by decide), by simpa using hall 11 (by decide)⟩
        obtain ⟨rfl, rfl, rfl, rfl, rfl, rfl, rfl, rfl, rfl, rfl, rfl, rfl⟩ := hal
        have HB9 := Lib.hid hb
        obtain ⟨_, _, z0, zb⟩ := HKD.out w' (HB5.out.trans (hb.mono HB5.out.size))
        have HZ0 := Lib.hid z0
        have HZB := Lib.hid zb
        have r0 := cellH z0 0
        have r1 := cellH z0 1
        have rf := freeH z0
        simp only [List.getElem?_toArray, List.getElem?_cons_zero, List.getElem?_cons_succ] at r0 r1
        clear hall h7 hb z0 zb e3
        simp only [onlyIf_true]
        simp only [List.drop_succ_cons, List.drop_zero]
        go_wp2_with fail
        obtain ⟨z1, z2⟩ := set2 HZ0.out HZB.out (by omega) (.int .i64 bf) (.int .i64 T)
        refine bodyPost_ret (res_ct Try.results8 _ _ (w.heap.size + 1 + 1) 23 #[.int .i64 bf, .int .i64 T] (0, 0) _ rfl z1 Try.underlying23 rfl info_we2) rfl ?_
        exact ⟨by rw [HVW.out]; rfl, z2⟩
      case hstep =>
        rintro listed a w' i ⟨l0, l1, l2, l3, l4, l5, l6, l7, l8, l9, l10, l11, A, rfl, rfl, hb, h7⟩ hi hin
        obtain ⟨hf, o', ho', hp⟩ := mem_ready.1 hi
        clear hi
        obtain ⟨_, q4, q5⟩ := HKS.out w' hb
        match i, hin with
        | 0, _ =>
          obtain rfl : l0 = false := by simpa using hf
          clear hp ho'
          unfold wpOp
          simp only [onlyIf_true]
          go_simp
          exact .inl ⟨true, l1, l2, l3, l4, l5, l6, l7, l8, l9, l10, l11, A, rfl, rfl, hb, h7⟩
        | 1, _ =>
          obtain rfl : l1 = false := by simpa using hf
          cases ho'
          obtain rfl : l0 = true := by simpa using hp ⟨0, .data⟩ (by simp) rfl
          clear hp
          unfold wpOp
          simp only [onlyIf_true]
          go_simp
          exact .inl ⟨true, true, l2, l3, l4, l5, l6, l7, l8, l9, l10, l11, A, rfl, rfl, hb, h7⟩
        | 2, _ =>
          obtain rfl : l2 = false := by simpa using hf
          clear hp ho'
          unfold wpOp
          simp only [onlyIf_true]
          go_simp
          exact .inl ⟨l0, l1, true, l3, l4, l5, l6, l7, l8, l9, l10, l11, A, rfl, rfl, hb, h7⟩
        | 3, _ =>
          obtain rfl : l3 = false := by simpa using hf
          cases ho'
          obtain rfl : l2 = true := by simpa using hp ⟨2, .data⟩ (by simp) rfl
          clear hp
          unfold wpOp
          simp only [onlyIf_true]
          go_simp
          exact .inl ⟨l0, l1, true, true, l4, l5, l6, l7, l8, l9, l10, l11, A, rfl, rfl, hb, h7⟩
        | 4, _ =>
          obtain rfl : l4 = false := by simpa using hf
          clear hp ho'
          unfold wpOp
          simp only [onlyIf_true]
          go_simp
          exact .inl ⟨l0, l1, l2, l3, true, l5, l6, l7, l8, l9, l10, l11, A, rfl, rfl, hb, h7⟩
        | 5, _ =>
          obtain rfl : l5 = false := by simpa using hf
          clear hp ho'
          unfold wpOp
          simp only [onlyIf_true]
          go_simp
          exact .inl ⟨l0, l1, l2, l3, l4, true, l6, l7, l8, l9, l10, l11, A, rfl, rfl, hb, h7⟩
        | 6, _ =>
          obtain rfl : l6 = false := by simpa using hf
          cases ho'
          obtain rfl : l5 = true := by simpa using hp ⟨5, .data⟩ (by simp) rfl
          clear hp
          unfold wpOp
          simp only [onlyIf_true]
          go_simp
          refine .inl ((HO2.out w').mono ?_)
          rintro e w9 ⟨rfl, hb9⟩
          exact ⟨l0, l1, l2, l3, l4, true, true, l7, l8, l9, l10, l11, A, rfl, rfl, hb.trans (hb9.mono hb.size), fun h => (hb9.block _ (Array.getElem?_eq_some_iff.1 (h7 h)).1).trans (h7 h)⟩
        | 7, _ =>
          obtain rfl : l7 = false := by simpa using hf
          cases ho'
          obtain rfl : l6 = true := by simpa using hp ⟨6, .data⟩ (by simp) rfl
          clear hp
          unfold wpOp
          simp only [onlyIf_true]
          go_simp
          exact .inl ⟨l0, l1, l2, l3, l4, l5, true, true, l8, l9, l10, l11, w'.heap.size, rfl, rfl, hb.alloc hb.size _, fun _ => heap_alloc_new _ _⟩
        | 8, _ =>
          obtain rfl : l8 = false := by simpa using hf
          cases ho'
          obtain rfl : l4 = true := by simpa using hp ⟨4, .data⟩ (by simp) rfl
          obtain rfl : l7 = true := by simpa using hp ⟨7, .data⟩ (by simp) rfl
          clear hp
          unfold wpOp
          simp only [onlyIf_true]
          go_simp
          refine .inl ((HLE.out w' A (h7 rfl)).mono ?_)
          rintro e w9 ⟨rfl, rfl⟩
          exact ⟨l0, l1, l2, l3, true, l5, l6, true, true, l9, l10, l11, A, rfl, rfl, hb, h7⟩
        | 9, _ =>
          obtain rfl : l9 = false := by simpa using hf
          cases ho'
          obtain rfl : l3 = true := by simpa using hp ⟨3, .data⟩ (by simp) rfl
          obtain rfl : l8 = true := by simpa using hp ⟨8, .data⟩ (by simp) rfl
          clear hp
          unfold wpOp
          simp only [onlyIf_true]
          go_simp
          exact .inl ⟨l0, l1, l2, true, l4, l5, l6, l7, true, true, l10, l11, A, rfl, rfl, hb, h7⟩
        | 10, _ =>
          obtain rfl : l10 = false := by simpa using hf
          cases ho'
          obtain rfl : l9 = true := by simpa using hp ⟨9, .data⟩ (by simp) rfl
          clear hp
          unfold wpOp
          simp only [onlyIf_true]
          go_simp
          refine .inl ((HTU.out w').mono ?_)
          rintro e w9 ⟨rfl, rfl⟩
          exact ⟨l0, l1, l2, l3, l4, l5, l6, l7, l8, true, true, l11, A, rfl, rfl, hb, h7⟩
        | 11, _ =>
          obtain rfl : l11 = false := by simpa using hf
          cases ho'
          obtain rfl : l1 = true := by simpa using hp ⟨1, .data⟩ (by simp) rfl
          obtain rfl : l10 = true := by simpa using hp ⟨10, .data⟩ (by simp) rfl
          clear hp
          unfold wpOp
          simp only [onlyIf_true]
          go_simp
          exact .inl ⟨l0, true, l2, l3, l4, l5, l6, l7, l8, l9, true, true, A, rfl, rfl, hb, h7⟩
end Go.Proofs.Ytpaihnjgpookjaa
