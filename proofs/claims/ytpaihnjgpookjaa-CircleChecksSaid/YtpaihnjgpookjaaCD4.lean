/- Package firetowerref05: Has, Lies. -/
import Derived.Test.YtpaihnjgpookjaaCD3
import Derived.Test.YtpaihnjgpookjaaCA4
import Derived.Test.YtpaihnjgpookjaaCA5
set_option linter.unusedVariables false
set_option linter.unusedSimpArgs false
namespace Go.Proofs.Ytpaihnjgpookjaa
open Go Go.RowKit

/-- How far a bearing lies behind a wedge's beginning. -/
def psI (f num den : Int) : Int := if num - f * den < 0 then num - f * den + 3600 * den else num - f * den
def hsB (f t num den : Int) : Bool := decide (psI f num den ≤ opI f t * den)
theorem mul_48 {a b : Int} {A : Int} (ha : 0 ≤ a ∧ a ≤ A) (hb : 1 ≤ b ∧ b ≤ 48) : 0 ≤ a * b ∧ a * b ≤ A * 48 :=
  ⟨Int.mul_nonneg ha.1 (by omega), Int.mul_le_mul ha.2 hb.2 (by omega) (by omega)⟩
set_option maxRecDepth 100000 in
set_option maxHeartbeats 4000000 in
theorem pHas_any (f t num den : Int) (w : World) (hf : 0 ≤ f ∧ f ≤ 3599) (ho : 0 ≤ opI f t ∧ opI f t ≤ 900) (hd : 1 ≤ den ∧ den ≤ 48) (hn : 0 ≤ num ∧ num ≤ 3600 * 48) :
    Calls Try.prog 35 #[.agg #[.int .i64 f, .int .i64 t], .agg #[.int .i64 num, .int .i64 den]] w fun e w' => e = .returned (.bool (hsB f t num den)) ∧ Below w.heap.size w w' := by
  have HO := Lib.hid (fun w' => pOpening_any f t w')
  have h1 := mul_48 hf hd
  have h2 := mul_48 ho hd
  have HV : Hid (hsB f t num den = decide (psI f num den ≤ opI f t * den)) := Lib.hid rfl
  have HP : Hid (psI f num den = if num - f * den < 0 then num - f * den + 3600 * den else num - f * den) := Lib.hid rfl
  obtain ⟨b, hb⟩ : ∃ z, hsB f t num den = z := ⟨_, rfl⟩
  obtain ⟨p, hp⟩ : ∃ z, psI f num den = z := ⟨_, rfl⟩
  obtain ⟨o, hoo⟩ : ∃ z, opI f t = z := ⟨_, rfl⟩
  rw [hb, hp, hoo] at HV
  rw [hb]
  rw [hp] at HP
  rw [hoo] at HO h2
  have e1 : IntKind.i64.wrap (f * den) = f * den := IntWalk.i64_in _ (by omega)
  have e2 : IntKind.i64.wrap (num - f * den) = num - f * den := IntWalk.i64_in _ (by omega)
  have e3 : IntKind.i64.wrap (3600 * den) = 3600 * den := IntWalk.i64_in _ (by omega)
  have e4 : IntKind.i64.wrap (num - f * den + 3600 * den) = num - f * den + 3600 * den := IntWalk.i64_in _ (by omega)
  have e5 : IntKind.i64.wrap (o * den) = o * den := IntWalk.i64_in _ (by omega)
  have HBA := Lib.hid (two_cells w #[.int .i64 f, .int .i64 t] #[.int .i64 num, .int .i64 den] 23 71 (W := (w.alloc (.cells #[.int .i64 f, .int .i64 t] 23)).alloc (.cells #[.int .i64 num, .int .i64 den] 71)) (Below.refl _ _))
  obtain ⟨Z, hZ⟩ : ∃ Z, (w.alloc (.cells #[.int .i64 f, .int .i64 t] 23)).alloc (.cells #[.int .i64 num, .int .i64 den] 71) = Z := ⟨_, rfl⟩
  rw [hZ] at HBA
  have HZ := Lib.hid hZ
  clear hZ hb hp hoo h1 h2 hf ho hd hn
  go_enter Try.func35, Try.ntmps35
  go_wp2_with fail
  · rw [HZ.out]
    have HN : Hid (b = decide (num - f * den + 3600 * den ≤ o * den)) := Lib.hid (by
      have h1 := HP.out
      rw [if_pos (by assumption)] at h1
      rw [HV.out, h1])
    have HK : Hid (∀ w', Below Z.heap.size Z w' → w'.cell? ⟨w.heap.size, 0, none⟩ = some (.int .i64 f) ∧ w'.cell? ⟨w.heap.size, 1, none⟩ = some (.int .i64 t) ∧ w'.cell? ⟨w.heap.size + 1, 1, none⟩ = some (.int .i64 den)) := Lib.hid (fun w' h => by
      have x0 := (h.block _ (Array.getElem?_eq_some_iff.1 HBA.out.1).1).trans HBA.out.1
      have x1 := (h.block _ (Array.getElem?_eq_some_iff.1 HBA.out.2.1).1).trans HBA.out.2.1
      exact ⟨cellH x0 0, cellH x0 1, cellH x1 1⟩)
    have C1 : Hid (∀ w', Below Z.heap.size Z w' → Calls Try.prog 14 #[.agg #[.int .i64 f, .int .i64 t]] w' fun e w'' => e = .returned (.int .i64 o) ∧ Below Z.heap.size Z w'') := Lib.hid (fun w' h => (HO.out w').mono fun e w'' ⟨he, hh⟩ => ⟨he, h.trans (hh.mono h.size)⟩)
    refine wp_region_turn 7 (fun _ w' => Below Z.heap.size Z w') (by kernel_rfl) (by kernel_rfl) ((Below.refl _ Z).drew) ?_
    simp only [List.take_succ_cons, List.take_zero, List.drop_succ_cons, List.drop_zero]
    iterate 7
      (first
        | (apply turnC_step (by rfl); (intro w' hw'; obtain ⟨q0, q1, q2⟩ := HK.out w' hw'; go_simp; first | with_reducible exact ⟨hw', rfl⟩ | with_reducible exact rfl | with_reducible exact ⟨hw', congrArg (Value.int .i64) e5⟩))
        | (apply turnC_step (by rfl); (intro w' hw'; obtain ⟨q0, q1, q2⟩ := HK.out w' hw'; go_simp; with_reducible exact C1.out w' hw')))
      simp only [Act.put, List.setIfInBounds_toArray, List.set_cons_succ, List.set_cons_zero]
    intro listed w5 _ hw5
    have HB5 := Lib.hid (HBA.out.2.2.2.trans (hw5.mono HBA.out.2.2.2.size))
    clear hw5 HK C1
    go_wp2_with fail
    go_ret
    exact ⟨by rw [HN.out]; rfl, HB5.out⟩
  · rw [HZ.out]
    have HN : Hid (b = decide (num - f * den ≤ o * den)) := Lib.hid (by
      have h1 := HP.out
      rw [if_neg (by omega)] at h1
      rw [HV.out, h1])
    have HK : Hid (∀ w', Below Z.heap.size Z w' → w'.cell? ⟨w.heap.size, 0, none⟩ = some (.int .i64 f) ∧ w'.cell? ⟨w.heap.size, 1, none⟩ = some (.int .i64 t) ∧ w'.cell? ⟨w.heap.size + 1, 1, none⟩ = some (.int .i64 den)) := Lib.hid (fun w' h => by
      have x0 := (h.block _ (Array.getElem?_eq_some_iff.1 HBA.out.1).1).trans HBA.out.1
      have x1 := (h.block _ (Array.getElem?_eq_some_iff.1 HBA.out.2.1).1).trans HBA.out.2.1
      exact ⟨cellH x0 0, cellH x0 1, cellH x1 1⟩)
    have C1 : Hid (∀ w', Below Z.heap.size Z w' → Calls Try.prog 14 #[.agg #[.int .i64 f, .int .i64 t]] w' fun e w'' => e = .returned (.int .i64 o) ∧ Below Z.heap.size Z w'') := Lib.hid (fun w' h => (HO.out w').mono fun e w'' ⟨he, hh⟩ => ⟨he, h.trans (hh.mono h.size)⟩)
    refine wp_region_turn 7 (fun _ w' => Below Z.heap.size Z w') (by kernel_rfl) (by kernel_rfl) ((Below.refl _ Z).drew) ?_
    simp only [List.take_succ_cons, List.take_zero, List.drop_succ_cons, List.drop_zero]
    iterate 7
      (first
        | (apply turnC_step (by rfl); (intro w' hw'; obtain ⟨q0, q1, q2⟩ := HK.out w' hw'; go_simp; first | with_reducible exact ⟨hw', rfl⟩ | with_reducible exact rfl | with_reducible exact ⟨hw', congrArg (Value.int .i64) e5⟩))
        | (apply turnC_step (by rfl); (intro w' hw'; obtain ⟨q0, q1, q2⟩ := HK.out w' hw'; go_simp; with_reducible exact C1.out w' hw')))
      simp only [Act.put, List.setIfInBounds_toArray, List.set_cons_succ, List.set_cons_zero]
    intro listed w5 _ hw5
    have HB5 := Lib.hid (HBA.out.2.2.2.trans (hw5.mono HBA.out.2.2.2.size))
    clear hw5 HK C1
    go_wp2_with fail
    go_ret
    exact ⟨by rw [HN.out]; rfl, HB5.out⟩
/-- A bearing lies in a wedge if its two neighbours do. -/
theorem hs_two {f o num den : Int} (hf : 0 ≤ f ∧ f ≤ 3599) (ho : 0 ≤ o ∧ o ≤ 900) (hd : 1 ≤ den) (hn : 0 ≤ num ∧ num < 3600 * den) :
    psI f num den ≤ o * den ↔ (num / den - f) % 3600 ≤ o ∧ ((num + den - 1) / den - f) % 3600 ≤ o := by
  obtain ⟨q, hq⟩ : ∃ q, num / den = q := ⟨_, rfl⟩
  obtain ⟨s, hs⟩ : ∃ s, num % den = s := ⟨_, rfl⟩
  have h1 : num = den * q + s := by rw [← hq, ← hs]; exact (Int.mul_ediv_add_emod num den).symm
  have h2 : 0 ≤ s := by rw [← hs]; exact Int.emod_nonneg _ (by omega)
  have h3 : s < den := by rw [← hs]; exact Int.emod_lt_of_pos _ (by omega)
  have hq0 : 0 ≤ q := by rw [← hq]; exact Int.ediv_nonneg hn.1 (by omega)
  have hq1 : q < 3600 := by rw [← hq]; exact Int.ediv_lt_of_lt_mul (by omega) hn.2
  have hc : (num + den - 1) / den = if s = 0 then q else q + 1 := by
    split
    · rename_i h0
      rw [h1, h0, show den * q + 0 + den - 1 = (den - 1) + den * q by omega, Int.add_mul_ediv_left _ _ (by omega), Int.ediv_eq_zero_of_lt (by omega) (by omega)]
      omega
    · rename_i h0
      rw [h1, show den * q + s + den - 1 = (s - 1) + den * (q + 1) by rw [Int.mul_add]; omega, Int.add_mul_ediv_left _ _ (by omega), Int.ediv_eq_zero_of_lt (by omega) (by omega)]
      omega
  obtain ⟨p, hp⟩ : ∃ p, (q - f) % 3600 = p := ⟨_, rfl⟩
  have hp2 : p = if q - f < 0 then q - f + 3600 else q - f := by split <;> omega
  have hps : psI f num den = den * p + s := by
    unfold psI
    have e1 : num - f * den = den * (q - f) + s := by rw [h1, Int.mul_sub, Int.mul_comm f den]; omega
    rw [e1, hp2]
    by_cases hneg : q - f < 0
    · have h4 : den * (q - f) ≤ den * (-1) := Int.mul_le_mul_of_nonneg_left (by omega) (by omega)
      rw [if_pos (by omega), if_pos hneg, Int.mul_add]
      omega
    · have h4 : 0 ≤ den * (q - f) := Int.mul_nonneg (by omega) (by omega)
      rw [if_neg (by omega), if_neg hneg]
  rw [hps, hq, hp, hc, Int.mul_comm o den]
  by_cases h0 : s = 0
  · rw [if_pos h0, hp, h0]
    constructor
    · intro h
      have h5 : p ≤ o := by
        rcases Int.lt_or_le o p with h6 | h6
        · have h7 : den * (o + 1) ≤ den * p := Int.mul_le_mul_of_nonneg_left (by omega) (by omega)
          rw [Int.mul_add] at h7
          omega
        · exact h6
      exact ⟨h5, h5⟩
    · intro h
      have h7 : den * p ≤ den * o := Int.mul_le_mul_of_nonneg_left h.1 (by omega)
      omega
  · rw [if_neg h0]
    constructor
    · intro h
      have h5 : p + 1 ≤ o := by
        rcases Int.lt_or_le o (p + 1) with h6 | h6
        · have h7 : den * o ≤ den * p := Int.mul_le_mul_of_nonneg_left (by omega) (by omega)
          omega
        · exact h6
      omega
    · intro h
      have h5 : p + 1 ≤ o := by omega
      have h7 : den * (p + 1) ≤ den * o := Int.mul_le_mul_of_nonneg_left h5 (by omega)
      rw [Int.mul_add] at h7
      omega
end Go.Proofs.Ytpaihnjgpookjaa
