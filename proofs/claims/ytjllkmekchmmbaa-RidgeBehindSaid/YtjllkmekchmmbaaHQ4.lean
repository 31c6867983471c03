/- RidgeBehind: for every country. -/
import Derived.Test.YtjllkmekchmmbaaHQ3
import Derived.Test.YtjllkmekchmmbaaHK2
set_option linter.unusedVariables false
set_option linter.unusedSimpArgs false
namespace Go.Proofs.Ytjllkmekchmmbaa
open Go Go.RowKit

set_option maxRecDepth 100000 in
set_option maxHeartbeats 8000000 in
theorem behind_card (wd hg : Int) (o tv hz : Value) (g : List Int) (T : List Tw) (Z : List Hz) (height rise tick other : Int) (w : World) (ho : INRow w o g) (hl : g.length ≤ 9223372036854775807) (ht : TwRow w tv T) (htl : T.length ≤ 9223372036854775807) (hh : HzRow w hz Z) (hhl : Z.length ≤ 9223372036854775807) (_ : -9223372036854775808 ≤ height ∧ height ≤ 9223372036854775807) (_ : -9223372036854775808 ≤ rise ∧ rise ≤ 9223372036854775807) (_ : -9223372036854775808 ≤ tick ∧ tick ≤ 9223372036854775807) (hot : 0 ≤ other ∧ other ≤ 65535) :
    Calls Try.prog 9 #[coV wd hg o tv hz, .int .i64 height, .int .i64 rise, .int .i64 tick, .int .u16 other] w fun e w' => e = .returned (.bool true) ∧ Below w.heap.size w w' := by
  have HFW := Lib.hid (fun w' (h : Below w.heap.size w w') => few_any wd hg o tv hz g T Z w' (ho.keep h) (ht.keep h) (hh.keep h))
  by_cases hall : fewB g.length T.length Z.length = true ∧ g.length ≤ 30 ∧ T.length ≤ 5 ∧ beE wd hg g T Z height rise tick = 0
  · exact behind_ok wd hg o tv hz g T Z height rise tick other w ho hl ht htl hh hhl hot hall.1 hall.2.1 hall.2.2.1 hall.2.2.2
  have HBE : beE wd hg g T Z height rise tick ≠ 0 → Hid (∀ w', Below w.heap.size w w' → Calls Try.prog 28 #[coV wd hg o tv hz, .int .i64 height, .int .i64 rise, .int .i64 tick] w' fun e w'' => e = .returned (.tuple #[.agg #[.int .i64 0, .int .i64 0], .int .i64 0, .int .i64 (beE wd hg g T Z height rise tick)]) ∧ Below w'.heap.size w' w'') := fun hE => Lib.hid (fun w' h => Best_bad wd hg o tv hz g T Z height rise tick w' (ho.keep h) hl (ht.keep h) htl (hh.keep h) hhl hE)
  have HCO : Hid (∀ w', Below w.heap.size w w' → Calls Try.prog 36 #[coV wd hg o tv hz, .int .i64 rise, .int .i64 tick, .int .i64 1] w' fun e w'' => ∃ (v : Value) (f : Int), e = .returned (.tuple #[v, .int .i64 f]) ∧ Below w'.heap.size w' w'') := Lib.hid (fun w' h => by
    by_cases hcv : cvE wd hg g T Z rise tick = 0
    · exact (Covered_ok wd hg o tv hz g T Z rise tick 1 w' (ho.keep h) hl (ht.keep h) htl (hh.keep h) hhl hcv (by decide)).mono fun e w'' ⟨v', L, he, hb, _, _⟩ => ⟨v', 0, he, hb⟩
    · exact (Covered_bad wd hg o tv hz g T Z rise tick 1 w' (ho.keep h) hl (ht.keep h) htl (hh.keep h) hhl hcv).mono fun e w'' ⟨he, hb⟩ => ⟨_, _, he, hb⟩)
  obtain ⟨oa, oc, rfl, _⟩ := ho.form
  obtain ⟨ta, tc, rfl, _⟩ := ht.form
  obtain ⟨ha, hc, rfl, _⟩ := hh.form
  obtain ⟨W1, hW1, hb0, hs1, hrd⟩ := co_reads w wd hg (.slice oa g.length oc) (.slice ta T.length tc) (.slice ha Z.length hc)
  have HW1 := Lib.hid hW1; have HB0 := Lib.hid hb0; have HRD := Lib.hid hrd
  clear hW1 hb0 hs1 hrd ho ht hh hl htl hhl
  unfold coV at HFW HBE HCO
  unfold coV
  cases hfb : fewB g.length T.length Z.length
  · rw [hfb] at HFW
    clear hall HBE
    go_enter Try.func9, Try.ntmps9
    go_wp2_with fail
    rw [← HW1.out]
    refine (head_any W1).mono ?_
    rintro e w2 ⟨rfl, hb⟩
    have HD2 := Lib.hid hb
    have HB2 := Lib.hid (HB0.out.trans (hb.mono HB0.out.size))
    clear hb
    obtain ⟨p0, p1, p2, p3, p4⟩ := HRD.out w2 HD2.out
    go_wp2_with fail
    refine (HFW.out _ HB2.out).mono ?_
    rintro e w3 ⟨rfl, hb⟩
    have HD3 := Lib.hid (HD2.out.trans (hb.mono HD2.out.size))
    have HB3 := Lib.hid (HB2.out.trans (hb.mono HB2.out.size))
    clear hb p0 p1 p2 p3 p4
    obtain ⟨p0, p1, p2, p3, p4⟩ := HRD.out _ HD3.out
    go_wp2_with fail
    go_ret
    exact ⟨rfl, HB3.out⟩
  rw [hfb] at HFW
  by_cases hg30 : g.length ≤ 30
  case neg =>
    have hq30 : decide (30 < (g.length : Int)) = true := by simp; omega
    clear hall HBE
    go_enter Try.func9, Try.ntmps9
    go_wp2_with fail
    rw [← HW1.out]
    refine (head_any W1).mono ?_
    rintro e w2 ⟨rfl, hb⟩
    have HD2 := Lib.hid hb
    have HB2 := Lib.hid (HB0.out.trans (hb.mono HB0.out.size))
    clear hb
    obtain ⟨p0, p1, p2, p3, p4⟩ := HRD.out w2 HD2.out
    go_wp2_with fail
    refine (HFW.out _ HB2.out).mono ?_
    rintro e w3 ⟨rfl, hb⟩
    have HD3 := Lib.hid (HD2.out.trans (hb.mono HD2.out.size))
    have HB3 := Lib.hid (HB2.out.trans (hb.mono HB2.out.size))
    clear hb p0 p1 p2 p3 p4
    obtain ⟨p0, p1, p2, p3, p4⟩ := HRD.out _ HD3.out
    go_wp2_with fail
    go_ret
    exact ⟨rfl, HB3.out⟩
  have hq30 : decide (30 < (g.length : Int)) = false := by simp; omega
  by_cases hT5 : T.length ≤ 5
  case neg =>
    have hq5 : decide (5 < (T.length : Int)) = true := by simp; omega
    clear hall HBE
    go_enter Try.func9, Try.ntmps9
    go_wp2_with fail
    rw [← HW1.out]
    refine (head_any W1).mono ?_
    rintro e w2 ⟨rfl, hb⟩
    have HD2 := Lib.hid hb
    have HB2 := Lib.hid (HB0.out.trans (hb.mono HB0.out.size))
    clear hb
    obtain ⟨p0, p1, p2, p3, p4⟩ := HRD.out w2 HD2.out
    go_wp2_with fail
    refine (HFW.out _ HB2.out).mono ?_
    rintro e w3 ⟨rfl, hb⟩
    have HD3 := Lib.hid (HD2.out.trans (hb.mono HD2.out.size))
    have HB3 := Lib.hid (HB2.out.trans (hb.mono HB2.out.size))
    clear hb p0 p1 p2 p3 p4
    obtain ⟨p0, p1, p2, p3, p4⟩ := HRD.out _ HD3.out
    go_wp2_with fail
    go_ret
    exact ⟨rfl, HB3.out⟩
  have hq5 : decide (5 < (T.length : Int)) = false := by simp; omega
  have hE : beE wd hg g T Z height rise tick ≠ 0 := fun h => hall ⟨hfb, hg30, hT5, h⟩
  have HB := HBE hE
  obtain ⟨E, hEE⟩ : ∃ x, beE wd hg g T Z height rise tick = x := ⟨_, rfl⟩
  rw [hEE] at HB hE
  have qe : (E != 0) = true := by simpa using hE
  have qe2 : (E == 0) = false := by simpa using hE
  clear hEE hall HBE hE
  go_enter Try.func9, Try.ntmps9
  go_wp2_with fail
  rw [← HW1.out]
  refine (head_any W1).mono ?_
  rintro e w2 ⟨rfl, hb⟩
  have HD2 := Lib.hid hb
  have HB2 := Lib.hid (HB0.out.trans (hb.mono HB0.out.size))
  clear hb
  obtain ⟨p0, p1, p2, p3, p4⟩ := HRD.out w2 HD2.out
  go_wp2_with fail
  refine (HFW.out _ HB2.out).mono ?_
  rintro e w3 ⟨rfl, hb⟩
  have HD3 := Lib.hid (HD2.out.trans (hb.mono HD2.out.size))
  have HB3 := Lib.hid (HB2.out.trans (hb.mono HB2.out.size))
  clear hb p0 p1 p2 p3 p4
  obtain ⟨p0, p1, p2, p3, p4⟩ := HRD.out _ HD3.out
  go_wp2_with fail
  refine (HB.out _ HB3.out).mono ?_
  rintro e w4 ⟨rfl, hb⟩
  have HD4 := Lib.hid (HD3.out.trans (hb.mono HD3.out.size))
  have HB4 := Lib.hid (HB3.out.trans (hb.mono HB3.out.size))
  have hY := (Below.refl _ w4).alloc (Nat.le_refl _) (.cells #[.int .i64 0, .int .i64 0] 30)
  have HDY := Lib.hid (HD4.out.trans (hY.mono HD4.out.size))
  have HBY := Lib.hid (HB4.out.trans (hY.mono HB4.out.size))
  clear hb hY p0 p1 p2 p3 p4
  obtain ⟨p0, p1, p2, p3, p4⟩ := HRD.out _ HDY.out
  go_wp2_with fail
  refine (HCO.out _ HBY.out).mono ?_
  rintro e w5 ⟨v5, f5, rfl, hb⟩
  have HB5 := Lib.hid (HBY.out.trans (hb.mono HBY.out.size))
  clear hb p0 p1 p2 p3 p4
  go_wp2_with fail
  go_ret
  exact ⟨rfl, HB5.out⟩
end Go.Proofs.Ytjllkmekchmmbaa

/-! RidgeBehind: for every country a further tower at the place that Best names covers as many more places as it says, and none elsewhere covers more: the law returns true. -/
set_option linter.unusedVariables false
set_option linter.unusedSimpArgs false
namespace Go.Proofs.Ytjllkmekchmmbaa.lawRidgeBehind
open Go.ChangeShapes Go.WideShapes Go.ChangeAt Go.RowKit Go.Proofs.Ytjllkmekchmmbaa

set_option maxRecDepth 100000 in
theorem contract (H : Type) (enc : TypeId × Value → H) (W : World) (base : Nat) (args : Array Value) (ds gs : List (DataW H)) (before : List MemPlace)
    (hval : ∀ (j : Nat) t v, Try.f9.params[j]? = some t → args[j]? = some v → Value.okWide Try.prog W .any base t v)
    (hW : DataW.Whole enc Try.prog Try.f9.params.toList Rows.ridgeBehindSpec.vars false W args.toList ds gs before) :
    Calls Try.prog 9 args W fun e W' => ∃ v, e = .returned v ∧ Rows.ridgeBehindSpec.post enc Try.prog Try.f9 false true false false W args v W' := by
  have hW' := hW
  have hlt : ∀ x ∈ before, x.block < W.heap.size := fun x hx => hW.lt x hx
  obtain ⟨p, q, hA0, hV, rfl, hfz, hnd⟩ := hW
  have hA : DataW.TrodAll enc Try.prog W 0 (fun _ => true) true Try.f9.params.toList args.toList ds p := hA0
  rw [Try.params9] at hA hval
  obtain ⟨v0, vs0, d0, ds0, p0, q0, hargs0, rfl, rfl, h0, r0⟩ := trodAll_cons hA
  obtain ⟨v1, vs1, d1, ds1, p1, q1, hargs1, rfl, rfl, h1, r1⟩ := trodAll_cons r0
  obtain ⟨v2, vs2, d2, ds2, p2, q2, hargs2, rfl, rfl, h2, r2⟩ := trodAll_cons r1
  obtain ⟨v3, vs3, d3, ds3, p3, q3, hargs3, rfl, rfl, h3, r3⟩ := trodAll_cons r2
  obtain ⟨v4, vs4, d4, ds4, p4, q4, hargs4, rfl, rfl, h4, r4⟩ := trodAll_cons r3
  obtain ⟨rfl, rfl, rfl⟩ := trodAll_nil r4
  subst hargs4
  subst hargs3
  subst hargs2
  subst hargs1
  obtain rfl : args = #[v0, v1, v2, v3, v4] := by cases args; simp_all
  obtain ⟨rfl, rfl⟩ := trodVars_none hV
  simp only [List.append_nil] at hW' hlt
  have k0 := h0
  have k1 := h1
  have k2 := h2
  have k3 := h3
  have k4 := h4
  obtain ⟨wd0, hg0, o0, tv0, hz0, g0, T0, Z0, rfl, ho0, hl0, ht0, htl0, hh0, hhl0⟩ := open_country (hval 0 28 v0 rfl rfl) h0
  obtain ⟨n1, rfl, hn1⟩ := int_bound (hval 1 3 v1 rfl rfl) h1
  obtain ⟨n2, rfl, hn2⟩ := int_bound (hval 2 3 v2 rfl rfl) h2
  obtain ⟨n3, rfl, hn3⟩ := int_bound (hval 3 3 v3 rfl rfl) h3
  obtain ⟨n4, rfl, hn4⟩ := open_u16 (hval 4 78 v4 rfl rfl) h4
  refine (behind_card wd0 hg0 o0 tv0 hz0 g0 T0 Z0 n1 n2 n3 n4 W ho0 hl0 ht0 htl0 hh0 hhl0 hn1 hn2 hn3 hn4).mono fun e W' ⟨he, hb⟩ => ?_
  subst he
  refine ⟨_, rfl, post_true (pa := p0 ++ (p1 ++ (p2 ++ (p3 ++ (p4 ++ []))))) rfl rfl hW' rfl ?_ hb⟩
  rw [Try.params9]
  exact (trodAll_cons_mk (Below.trod laidOut (by kernel_rfl) (of_decide_eq_true (by kernel_rfl)) k0 hb (fun x hx => hlt x (by first | exact hx | (simp only [List.mem_append] at hx ⊢; simp [hx])))) (trodAll_cons_mk (Below.trod laidOut (by kernel_rfl) (of_decide_eq_true (by kernel_rfl)) k1 hb (fun x hx => hlt x (by first | exact hx | (simp only [List.mem_append] at hx ⊢; simp [hx])))) (trodAll_cons_mk (Below.trod laidOut (by kernel_rfl) (of_decide_eq_true (by kernel_rfl)) k2 hb (fun x hx => hlt x (by first | exact hx | (simp only [List.mem_append] at hx ⊢; simp [hx])))) (trodAll_cons_mk (Below.trod laidOut (by kernel_rfl) (of_decide_eq_true (by kernel_rfl)) k3 hb (fun x hx => hlt x (by first | exact hx | (simp only [List.mem_append] at hx ⊢; simp [hx])))) (trodAll_cons_mk (Below.trod laidOut (by kernel_rfl) (of_decide_eq_true (by kernel_rfl)) k4 hb (fun x hx => hlt x (by first | exact hx | (simp only [List.mem_append] at hx ⊢; simp [hx])))) trodAll_mk0)))))

theorem reads (os : Os) {H : Type} (enc : TypeId × Value → H) : ∃ places, DataW.whole enc Try.prog ((laidWorld os).forCall (fun _ _ => 0) ⟨#[], #[.agg #[.int .i64 0, .int .i64 0, .slice none 0 0, .slice none 0 0, .slice none 0 0], .int .i64 0, .int .i64 0, .int .i64 0, .int .u16 0], []⟩).memory Try.f9.params.toList Rows.ridgeBehindSpec.vars false (#[.agg #[.int .i64 0, .int .i64 0, .slice none 0 0, .slice none 0 0, .slice none 0 0], .int .i64 0, .int .i64 0, .int .i64 0, .int .u16 0] : Array Value).toList 8 = some ([.agg [.agg [.lit (.int .i64 0), .lit (.int .i64 0), .nil], .nil, .nil], .lit (.int .i64 0), .lit (.int .i64 0), .lit (.int .i64 0), .lit (.int .u16 0)], [], places) :=
  ⟨[], by kernel_rfl⟩
set_option maxRecDepth 100000 in
theorem lifted (os : Os) (started : os.Started) (H : Type) (enc : TypeId × Value → H) (F : Stop.Interp) :
    ReturnsInHanded {} Try.checked os 9 .any ((OpenSpec.ofChange Rows.ridgeBehindSpec).preRow enc Try.prog Try.f9 Rows.ridgeBehindRow.domain false Rows.ridgeBehindRow.laid) (((OpenSpec.ofChange Rows.ridgeBehindSpec).at F).post enc Try.prog Try.f9 false true false false) := by
  obtain ⟨places, hx⟩ := reads os enc
  refine returnsInHanded_of_row (C := Try.checked) (s := OpenSpec.ofChange Rows.ridgeBehindSpec) own started (by kernel_rfl) Try.func9
    (witness_row_at (enc := enc) (C := Try.checked) false (laidWorld os) #[.agg #[.int .i64 0, .int .i64 0, .slice none 0 0, .slice none 0 0, .slice none 0 0], .int .i64 0, .int .i64 0, .int .i64 0, .int .u16 0] (World.laidAll_os _ _ _) (laid_vars os _) (laid_rest os _) (by kernel_rfl)
      (OpenSpec.preRow_of_cond 8 hx (by kernel_rfl) (fun k hk => by cases hk) (by kernel_rfl) (laid_met os _))) ?_
  intro W base args ds gs before hval hW _ _ _ hL _ _
  exact contract H enc W base args ds gs before hval hW

/-- RidgeBehind holds. -/
theorem said : Rows.RidgeBehindSaid :=
  OpenClaim.holds_of_cond 9 Try.f9 rfl rfl rfl rfl rfl rfl rfl ⟨rfl, rfl, rfl, rfl, rfl⟩ rfl rfl rfl rfl rfl (by kernel_rfl) Try.func9 (by kernel_rfl)
    (of_decide_eq_true (by kernel_rfl)) (by unfold Func.isWrapper; first | (rw [if_pos (by decide +kernel)]; kernel_rfl) | (rw [if_neg (by decide +kernel)]; exact ⟨rfl, rfl⟩))
    (fun os started H enc _ F => by rw [OpenClaim.pre_eq_preRow]; exact lifted os started H enc F)
end Go.Proofs.Ytjllkmekchmmbaa.lawRidgeBehind
