/- The reference's profile of a row. -/
import Derived.Test.YtnacgogcbbpjmaaHE2
set_option linter.unusedVariables false
set_option linter.unusedSimpArgs false
namespace Go.Proofs.Ytnacgogcbbpjmaa
open Go Go.RowKit

set_option maxRecDepth 100000 in
set_option maxHeartbeats 8000000 in
theorem rprofile_some1 (wd hg : Int) (o : Value) (g : List Int) (a b : Pl) (k : Int) (w : World) (hv : INRow w o g) (hm : vmB wd hg g = true) (ha : onB wd hg a = true) (hb : onB wd hg b = true) (hk : 1 ≤ k ∧ k < axN a b 1) :
    Calls Try.prog 108 #[mpV wd hg o, plV a, plV b, .agg #[.int .i64 1, .int .i64 k]] w fun e w' => e = .returned (.tuple #[.agg (pfL ⟨1, k, axN a b 1, grP g wd (axN a b 1) k a b⟩).toArray, .bool true]) ∧ Below w.heap.size w w' := by
  obtain ⟨A1, A2, A3, A4⟩ := onB_ok ha
  obtain ⟨B1, B2, B3, B4⟩ := onB_ok hb
  obtain ⟨V1, V2, V3, V4, _, _⟩ := vmB_ok hm
  obtain ⟨⟨c1, c2⟩, ⟨c3, c4⟩, ⟨c5, c6⟩, on1, on2, hgr⟩ := pro_core (g := g) hm ha hb (i := 1) (k := k) (by omega) hk
  have hn48 : axN a b 1 ≤ 48 := by unfold axN dist; split <;> omega
  have hgb := mts_bd hm ha hb (x := ⟨1, k, axN a b 1, grP g wd (axN a b 1) k a b⟩) ((mts_mem _).2 ⟨1, k.toNat, by unfold axN at hk; simp only [reduceIte, Nat.one_ne_zero] at hk; omega, by unfold mkM; rw [show ((k.toNat : Nat) : Int) = k by omega]; rfl⟩)
  simp only at hgb
  have hcast : ((1 : Nat) : Int) = 1 := rfl
  rw [hcast] at on1 on2 hgr
  clear hcast
  obtain ⟨a1, a2⟩ := a
  obtain ⟨b1, b2⟩ := b
  simp only at A1 A2 A3 A4 B1 B2 B3 B4
  have hnv : axN (a1, a2) (b1, b2) 1 = max (b2 - a2) (-(b2 - a2)) := by unfold axN dist; simp only [reduceIte, Nat.one_ne_zero]; omega
  have hlv : lineP 1 k (a1, a2) (b1, b2) = if b2 - a2 < 0 then a2 - k else a2 + k := rfl
  have hwv : wholeP 1 k (a1, a2) (b1, b2) = a1 * axN (a1, a2) (b1, b2) 1 + (b1 - a1) * k := rfl
  have hgv : Hid ((pfL ⟨1, k, axN (a1, a2) (b1, b2) 1, grP g wd (axN (a1, a2) (b1, b2) 1) k (a1, a2) (b1, b2)⟩).toArray = #[.int .i64 1, .int .i64 k, .int .i64 (lowP k (axN (a1, a2) (b1, b2) 1)).1, .int .i64 (lowP k (axN (a1, a2) (b1, b2) 1)).2, .int .i64 (lowP (grP g wd (axN (a1, a2) (b1, b2) 1) k (a1, a2) (b1, b2)) (axN (a1, a2) (b1, b2) 1)).1, .int .i64 (lowP (grP g wd (axN (a1, a2) (b1, b2) 1) k (a1, a2) (b1, b2)) (axN (a1, a2) (b1, b2) 1)).2]) := Lib.hid rfl
  rw [hgv.out]
  clear hgv
  obtain ⟨n, hn⟩ : ∃ n, axN (a1, a2) (b1, b2) 1 = n := ⟨_, rfl⟩
  obtain ⟨l, hl⟩ : ∃ l, lineP 1 k (a1, a2) (b1, b2) = l := ⟨_, rfl⟩
  obtain ⟨x, hx⟩ : ∃ x, wholeP 1 k (a1, a2) (b1, b2) = x := ⟨_, rfl⟩
  obtain ⟨G, hG⟩ : ∃ G, grP g wd (axN (a1, a2) (b1, b2) 1) k (a1, a2) (b1, b2) = G := ⟨_, rfl⟩
  rw [hG] at hgb hgr ⊢
  rw [hn] at hk hn48 hnv hwv hgr on1 on2 c5 c6 hgb ⊢
  rw [hl] at c3 c4 on1 on2 hlv hgr
  rw [hx] at c1 c2 c5 c6 on1 on2 hwv hgr
  clear hG hn hl hx
  have hr0 := Int.emod_nonneg x (show n ≠ 0 by omega)
  have hr1 := Int.emod_lt_of_pos x (show 0 < n by omega)
  have hA1 := hAt_bd hm on1
  have HA2 := Lib.hid (fun h => hAt_bd hm (on2 h))
  obtain ⟨i1, i2, i3, i4⟩ := on_idx hm on1
  have HI2 := Lib.hid (fun h => on_idx hm (on2 h))
  have HAT1 := Lib.hid (fun w' (h : Below w.heap.size w w') => rat_any wd hg o g (placeP 1 l (x / n)) w' (hv.keep h) (by omega) ⟨i2, i3⟩ (by omega))
  have HAT2 := Lib.hid (fun (h0 : 0 < x % n) w' (h : Below w.heap.size w w') => rat_any wd hg o g (placeP 1 l (x / n + 1)) w' (hv.keep h) (by have := HI2.out h0; omega) ⟨(HI2.out h0).2.1, (HI2.out h0).2.2.1⟩ (by omega))
  have HPL1 := Lib.hid (fun w' => rplaced_any 1 l (x / n) w')
  have HPL2 := Lib.hid (fun w' => rplaced_any 1 l (x / n + 1) w')
  have HSZ := Lib.hid (fun w' => rsize_any (b2 - a2) w' (by omega))
  have HL1 := Lib.hid (fun w' => rlowest_any k n w' (by omega) (by omega))
  have HL2 := Lib.hid (fun w' => rlowest_any G n w' (by omega) (by omega))
  rw [← hnv] at HSZ
  obtain ⟨h1, hh1⟩ : ∃ y, hAt g wd (placeP 1 l (x / n)) = y := ⟨_, rfl⟩
  obtain ⟨h2, hh2⟩ : ∃ y, hAt g wd (placeP 1 l (x / n + 1)) = y := ⟨_, rfl⟩
  obtain ⟨P1, hP1⟩ : ∃ y, placeP 1 l (x / n) = y := ⟨_, rfl⟩
  obtain ⟨P2, hP2⟩ : ∃ y, placeP 1 l (x / n + 1) = y := ⟨_, rfl⟩
  have hgr' : G = if 0 < x % n then h1 * (n - x % n) + h2 * (x % n) else h1 * n := by rw [hgr, ← hh1, ← hh2]
  rw [hh1] at HAT1 hA1
  rw [hh2] at HAT2 HA2
  rw [hP1] at HAT1 HPL1
  rw [hP2] at HAT2 HPL2
  obtain ⟨q, hq⟩ : ∃ q, x / n = q := ⟨_, rfl⟩
  obtain ⟨r, hr⟩ : ∃ r, x % n = r := ⟨_, rfl⟩
  rw [hq] at c5 c6 HPL1 HPL2
  rw [hr] at hr0 hr1 HAT2 HA2 hgr'
  have HGR := Lib.hid hgr'
  have HWV := Lib.hid hwv
  have HLV := Lib.hid hlv
  have HV := Lib.hid hv
  clear hgr hgr' hh1 hh2 hP1 hP2 on1 on2 i1 i2 i3 i4 HI2 hm ha hb hwv hlv hnv hv
  obtain ⟨W1, hW1, hb0, hs1, hrd⟩ := five_reads w wd hg o (a1, a2) (b1, b2) 1 k
  simp only at hW1 hrd
  have HW1 := Lib.hid hW1; have HB0 := Lib.hid hb0; have HRD := Lib.hid hrd
  clear hW1 hb0 hrd
  unfold mpV plV at HAT1 HAT2
  unfold plV at HPL1 HPL2
  unfold mpV plV
  simp only
  have m1 : 0 ≤ a1 * n := Int.mul_nonneg (by omega) (by omega)
  have m2 : a1 * n ≤ 48 * 48 := Int.mul_le_mul (by omega) hn48 (by omega) (by omega)
  have e1 : wrap64 (b2 - a2) = b2 - a2 := w64 (by omega)
  have e2 : wrap64 (b1 - a1) = b1 - a1 := w64 (by omega)
  have e3 : wrap64 (a1 * n) = a1 * n := w64 (by omega)
  have e4 : wrap64 ((b1 - a1) * k) = (b1 - a1) * k := w64 (by have h9 := HWV.out; omega)
  have e5 : wrap64 (a1 * n + (b1 - a1) * k) = x := by rw [← HWV.out]; exact w64 ⟨by omega, by omega⟩
  have ead : w.heap.size + 1 + 1 = w.heap.size + 2 := rfl
  have ead2 : w.heap.size + 2 + 1 = w.heap.size + 3 := rfl
  have ead3 : w.heap.size + 3 + 1 = w.heap.size + 4 := rfl
  have hz : ¬ n = 0 := by omega
  clear A1 A2 A3 A4 B1 B2 B3 B4 m1 m2 hs1 V1 V2 V3 V4
  have CPL1 : Hid (∀ W w', Below W.heap.size W w' → Calls Try.prog 112 #[.int .i64 1, .int .i64 l, .int .i64 q] w' fun e w'' => e = .returned (.agg #[.int .i64 P1.1, .int .i64 P1.2]) ∧ Below W.heap.size W w'') := Lib.hid (fun W w' h => (HPL1.out w').mono fun e w'' ⟨he, hh⟩ => ⟨he, h.trans (hh.mono h.size)⟩)
  have CPL2 : Hid (∀ W w', Below W.heap.size W w' → Calls Try.prog 112 #[.int .i64 1, .int .i64 l, .int .i64 (q + 1)] w' fun e w'' => e = .returned (.agg #[.int .i64 P2.1, .int .i64 P2.2]) ∧ Below W.heap.size W w'') := Lib.hid (fun W w' h => (HPL2.out w').mono fun e w'' ⟨he, hh⟩ => ⟨he, h.trans (hh.mono h.size)⟩)
  have CAT1 : Hid (∀ W w', Below w.heap.size w W → Below W.heap.size W w' → Calls Try.prog 102 #[.agg #[.int .i64 wd, .int .i64 hg, o], .agg #[.int .i64 P1.1, .int .i64 P1.2]] w' fun e w'' => e = .returned (.int .i64 h1) ∧ Below W.heap.size W w'') := Lib.hid (fun W w' h0 h => (HAT1.out w' (h0.trans (h.mono h0.size))).mono fun e w'' ⟨he, hh⟩ => ⟨he, h.trans (hh.mono h.size)⟩)
  have CAT2 : Hid (0 < r → ∀ W w', Below w.heap.size w W → Below W.heap.size W w' → Calls Try.prog 102 #[.agg #[.int .i64 wd, .int .i64 hg, o], .agg #[.int .i64 P2.1, .int .i64 P2.2]] w' fun e w'' => e = .returned (.int .i64 h2) ∧ Below W.heap.size W w'') := Lib.hid (fun hr W w' h0 h => (HAT2.out hr w' (h0.trans (h.mono h0.size))).mono fun e w'' ⟨he, hh⟩ => ⟨he, h.trans (hh.mono h.size)⟩)
  have CLO1 : Hid (∀ W w', Below W.heap.size W w' → Calls Try.prog 113 #[.int .i64 k, .int .i64 n] w' fun e w'' => e = .returned (.agg #[.int .i64 (lowP k n).1, .int .i64 (lowP k n).2]) ∧ Below W.heap.size W w'') := Lib.hid (fun W w' h => (HL1.out w').mono fun e w'' ⟨he, hh⟩ => ⟨he, h.trans (hh.mono h.size)⟩)
  have CLO2 : Hid (∀ W w', Below W.heap.size W w' → Calls Try.prog 113 #[.int .i64 G, .int .i64 n] w' fun e w'' => e = .returned (.agg #[.int .i64 (lowP G n).1, .int .i64 (lowP G n).2]) ∧ Below W.heap.size W w'') := Lib.hid (fun W w' h => (HL2.out w').mono fun e w'' ⟨he, hh⟩ => ⟨he, h.trans (hh.mono h.size)⟩)
  have n1 := hgb.2.2.2.2
  have n2 : 0 ≤ h1 * n := Int.mul_nonneg hA1.1 (by omega)
  have n3 : h1 * n ≤ 4000 * 48 := Int.mul_le_mul hA1.2 hn48 (by omega) (by omega)
  clear HPL1 HPL2 HAT1 HAT2 HL1 HL2 HWV hgb
  by_cases hrr : 0 < r
  · have HG2 : Hid (h1 * (n - r) + h2 * r = G) := Lib.hid (by rw [HGR.out, if_pos hrr])
    have hA2 := HA2.out hrr
    have k1 : 0 ≤ h1 * (n - r) := Int.mul_nonneg hA1.1 (by omega)
    have k2 : h1 * (n - r) ≤ 4000 * 48 := Int.mul_le_mul hA1.2 (by omega) (by omega) (by omega)
    have k3 : 0 ≤ h2 * r := Int.mul_nonneg hA2.1 (by omega)
    have k4 : h2 * r ≤ 4000 * 48 := Int.mul_le_mul hA2.2 (by omega) (by omega) (by omega)
    have F1 : IntKind.i64.wrap (h1 * n) = h1 * n := IntWalk.i64_in _ (by omega)
    have G1 : IntKind.i64.wrap (n - r) = n - r := IntWalk.i64_in _ (by omega)
    have G2 : IntKind.i64.wrap (h1 * (n - r)) = h1 * (n - r) := IntWalk.i64_in _ (by omega)
    have G3 : IntKind.i64.wrap (h2 * r) = h2 * r := IntWalk.i64_in _ (by omega)
    have G4 : IntKind.i64.wrap (h1 * (n - r) + h2 * r) = G := by rw [← HG2.out]; exact IntWalk.i64_in _ (by omega)
    have G5 : IntKind.i64.wrap (q + 1) = q + 1 := IntWalk.i64_in _ (by omega)
    clear k1 k2 k3 k4 hA2 HA2 HGR n2 n3
    by_cases hal : b2 - a2 < 0
    case pos =>
      have e8 : wrap64 (a2 - k) = l := by rw [HLV.out, if_pos hal]; exact w64 (by have := HLV.out; rw [if_pos hal] at this; omega)
      go_enter Try.func108, Try.ntmps108
      go_wp2_with fail
      rw [← HW1.out]
      refine (HSZ.out _).mono ?_
      rintro e w2 ⟨rfl, rfl⟩
      obtain ⟨p0, p1, p2, p3, p4, p5, p6, p7, p8, p9⟩ := HRD.out w2 (Below.refl _ _)
      go_wp2_with fail
      clear p0 p1 p2 p3 p4 p5 p6 p7 p8 p9
      refine wp_region_turn 9 (fun _ w' => Below w2.heap.size w2 w') (by kernel_rfl) (by kernel_rfl) ((Below.refl _ w2).drew) ?_
      simp only [List.take_succ_cons, List.take_zero, List.drop_succ_cons, List.drop_zero]
      iterate 5
        (apply turnC_step (by rfl); (intro w' hw'; obtain ⟨p0, p1, p2, p3, p4, p5, p6, p7, p8, p9⟩ := HRD.out w' (hw'); go_simp; first | exact ⟨hw', rfl⟩ | exact rfl))
        simp only [Act.put, List.setIfInBounds_toArray, List.set_cons_succ, List.set_cons_zero]
      (apply turnC_step (by rfl); (intro w' hw'; go_simp; exact CPL1.out w2 w' hw'))
      simp only [Act.put, List.setIfInBounds_toArray, List.set_cons_succ, List.set_cons_zero]
      (apply turnC_step (by rfl); (intro w' hw'; go_simp; exact CAT1.out w2 w' HB0.out hw'))
      simp only [Act.put, List.setIfInBounds_toArray, List.set_cons_succ, List.set_cons_zero]
      iterate 1
        (apply turnC_step (by rfl); (intro w' hw'; obtain ⟨p0, p1, p2, p3, p4, p5, p6, p7, p8, p9⟩ := HRD.out w' (hw'); go_simp; first | exact ⟨hw', rfl⟩ | exact rfl))
        simp only [Act.put, List.setIfInBounds_toArray, List.set_cons_succ, List.set_cons_zero]
      (apply turnC_step (by rfl); (intro w' hw'; go_simp; first | exact congrArg (Value.int .i64) F1 | exact rfl))
      simp only [Act.put, List.setIfInBounds_toArray, List.set_cons_succ, List.set_cons_zero]
      intro listed w3 _ hw3
      have HD3 := Lib.hid hw3
      have HB3 := Lib.hid (HB0.out.trans (hw3.mono HB0.out.size))
      clear hw3
      go_wp2_with fail
      refine wp_region_turn 22 (fun _ w' => Below w3.heap.size w3 w') (by kernel_rfl) (by kernel_rfl) ((Below.refl _ w3).drew) ?_
      simp only [List.take_succ_cons, List.take_zero, List.drop_succ_cons, List.drop_zero]
      iterate 5
        (apply turnC_step (by rfl); (intro w' hw'; obtain ⟨p0, p1, p2, p3, p4, p5, p6, p7, p8, p9⟩ := HRD.out w' (HD3.out.trans (hw'.mono HD3.out.size)); go_simp; first | exact ⟨hw', rfl⟩ | exact rfl))
        simp only [Act.put, List.setIfInBounds_toArray, List.set_cons_succ, List.set_cons_zero]
      (apply turnC_step (by rfl); (intro w' hw'; go_simp; exact CPL1.out w3 w' hw'))
      simp only [Act.put, List.setIfInBounds_toArray, List.set_cons_succ, List.set_cons_zero]
      (apply turnC_step (by rfl); (intro w' hw'; go_simp; exact CAT1.out w3 w' HB3.out hw'))
      simp only [Act.put, List.setIfInBounds_toArray, List.set_cons_succ, List.set_cons_zero]
      iterate 2
        (apply turnC_step (by rfl); (intro w' hw'; obtain ⟨p0, p1, p2, p3, p4, p5, p6, p7, p8, p9⟩ := HRD.out w' (HD3.out.trans (hw'.mono HD3.out.size)); go_simp; first | exact ⟨hw', rfl⟩ | exact rfl))
        simp only [Act.put, List.setIfInBounds_toArray, List.set_cons_succ, List.set_cons_zero]
      (apply turnC_step (by rfl); (intro w' hw'; go_simp; first | exact congrArg (Value.int .i64) G1 | exact rfl))
      simp only [Act.put, List.setIfInBounds_toArray, List.set_cons_succ, List.set_cons_zero]
      (apply turnC_step (by rfl); (intro w' hw'; go_simp; first | exact congrArg (Value.int .i64) G2 | exact rfl))
      simp only [Act.put, List.setIfInBounds_toArray, List.set_cons_succ, List.set_cons_zero]
      iterate 5
        (apply turnC_step (by rfl); (intro w' hw'; obtain ⟨p0, p1, p2, p3, p4, p5, p6, p7, p8, p9⟩ := HRD.out w' (HD3.out.trans (hw'.mono HD3.out.size)); go_simp; first | exact ⟨hw', rfl⟩ | exact rfl))
        simp only [Act.put, List.setIfInBounds_toArray, List.set_cons_succ, List.set_cons_zero]
      (apply turnC_step (by rfl); (intro w' hw'; go_simp; first | exact congrArg (Value.int .i64) G5 | exact rfl))
      simp only [Act.put, List.setIfInBounds_toArray, List.set_cons_succ, List.set_cons_zero]
      (apply turnC_step (by rfl); (intro w' hw'; go_simp; exact CPL2.out w3 w' hw'))
      simp only [Act.put, List.setIfInBounds_toArray, List.set_cons_succ, List.set_cons_zero]
      (apply turnC_step (by rfl); (intro w' hw'; go_simp; exact CAT2.out hrr w3 w' HB3.out hw'))
      simp only [Act.put, List.setIfInBounds_toArray, List.set_cons_succ, List.set_cons_zero]
      iterate 1
        (apply turnC_step (by rfl); (intro w' hw'; obtain ⟨p0, p1, p2, p3, p4, p5, p6, p7, p8, p9⟩ := HRD.out w' (HD3.out.trans (hw'.mono HD3.out.size)); go_simp; first | exact ⟨hw', rfl⟩ | exact rfl))
        simp only [Act.put, List.setIfInBounds_toArray, List.set_cons_succ, List.set_cons_zero]
      (apply turnC_step (by rfl); (intro w' hw'; go_simp; first | exact congrArg (Value.int .i64) G3 | exact rfl))
      simp only [Act.put, List.setIfInBounds_toArray, List.set_cons_succ, List.set_cons_zero]
      (apply turnC_step (by rfl); (intro w' hw'; go_simp; first | exact congrArg (Value.int .i64) G4 | exact rfl))
      simp only [Act.put, List.setIfInBounds_toArray, List.set_cons_succ, List.set_cons_zero]
      intro listed w4 _ hw4
      have HD4 := Lib.hid (HD3.out.trans (hw4.mono HD3.out.size))
      have HB4 := Lib.hid (HB3.out.trans (hw4.mono HB3.out.size))
      clear hw4
      go_wp2_with fail
      refine wp_region_turn 8 (fun _ w' => Below w4.heap.size w4 w') (by kernel_rfl) (by kernel_rfl) ((Below.refl _ w4).drew) ?_
      simp only [List.take_succ_cons, List.take_zero, List.drop_succ_cons, List.drop_zero]
      iterate 3
        (apply turnC_step (by rfl); (intro w' hw'; obtain ⟨p0, p1, p2, p3, p4, p5, p6, p7, p8, p9⟩ := HRD.out w' (HD4.out.trans (hw'.mono HD4.out.size)); go_simp; first | exact ⟨hw', rfl⟩ | exact rfl))
        simp only [Act.put, List.setIfInBounds_toArray, List.set_cons_succ, List.set_cons_zero]
      (apply turnC_step (by rfl); (intro w' hw'; go_simp; exact CLO1.out w4 w' hw'))
      simp only [Act.put, List.setIfInBounds_toArray, List.set_cons_succ, List.set_cons_zero]
      iterate 2
        (apply turnC_step (by rfl); (intro w' hw'; obtain ⟨p0, p1, p2, p3, p4, p5, p6, p7, p8, p9⟩ := HRD.out w' (HD4.out.trans (hw'.mono HD4.out.size)); go_simp; first | exact ⟨hw', rfl⟩ | exact rfl))
        simp only [Act.put, List.setIfInBounds_toArray, List.set_cons_succ, List.set_cons_zero]
      (apply turnC_step (by rfl); (intro w' hw'; go_simp; exact CLO2.out w4 w' hw'))
      simp only [Act.put, List.setIfInBounds_toArray, List.set_cons_succ, List.set_cons_zero]
      iterate 1
        (apply turnC_step (by rfl); (intro w' hw'; obtain ⟨p0, p1, p2, p3, p4, p5, p6, p7, p8, p9⟩ := HRD.out w' (HD4.out.trans (hw'.mono HD4.out.size)); go_simp; first | exact ⟨hw', rfl⟩ | exact rfl))
        simp only [Act.put, List.setIfInBounds_toArray, List.set_cons_succ, List.set_cons_zero]
      intro listed w8 _ hw8
      have HB8 := Lib.hid (HB4.out.trans (hw8.mono HB4.out.size))
      obtain ⟨_, _, _, _, _, _, _, _, _, p9⟩ := HRD.out w8 (HD4.out.trans (hw8.mono HD4.out.size))
      have x0 := cellH p9 0
      have x1 := cellH p9 1
      have x2 := cellH p9 2
      have x3 := cellH p9 3
      have x4 := cellH p9 4
      have x5 := cellH p9 5
      have xf := freeH p9
      simp at x0 x1 x2 x3 x4 x5
      have HR := Lib.hid (heap_same (heap_same (heap_same (heap_same (heap_same (heap_same p9 0 (.int .i64 1)) 1 (.int .i64 k)) 2 (.int .i64 (lowP k n).1)) 3 (.int .i64 (lowP k n).2)) 4 (.int .i64 (lowP G n).1)) 5 (.int .i64 (lowP G n).2))
      have HB9 := Lib.hid ((((((HB8.out.setCell (p := ⟨w.heap.size + 4, 0, none⟩) (by simp) (.int .i64 1)).setCell (p := ⟨w.heap.size + 4, 1, none⟩) (by simp) (.int .i64 k)).setCell (p := ⟨w.heap.size + 4, 2, none⟩) (by simp) (.int .i64 (lowP k n).1)).setCell (p := ⟨w.heap.size + 4, 3, none⟩) (by simp) (.int .i64 (lowP k n).2)).setCell (p := ⟨w.heap.size + 4, 4, none⟩) (by simp) (.int .i64 (lowP G n).1)).setCell (p := ⟨w.heap.size + 4, 5, none⟩) (by simp) (.int .i64 (lowP G n).2))
      clear hw8 p9
      go_wp2_with fail
      exact bodyPost_ret (res_two Try.results108 _ _ (w.heap.size + 4) 71 #[.int .i64 1, .int .i64 k, .int .i64 (lowP k n).1, .int .i64 (lowP k n).2, .int .i64 (lowP G n).1, .int .i64 (lowP G n).2] (0, 0) _ rfl HR.out Try.underlying71 rfl info_pfs) rfl ⟨rfl, HB9.out⟩
    case neg =>
      have e8 : wrap64 (a2 + k) = l := by rw [HLV.out, if_neg hal]; exact w64 (by have := HLV.out; rw [if_neg hal] at this; omega)
      go_enter Try.func108, Try.ntmps108
      go_wp2_with fail
      rw [← HW1.out]
      refine (HSZ.out _).mono ?_
      rintro e w2 ⟨rfl, rfl⟩
      obtain ⟨p0, p1, p2, p3, p4, p5, p6, p7, p8, p9⟩ := HRD.out w2 (Below.refl _ _)
      go_wp2_with fail
      clear p0 p1 p2 p3 p4 p5 p6 p7 p8 p9
      refine wp_region_turn 9 (fun _ w' => Below w2.heap.size w2 w') (by kernel_rfl) (by kernel_rfl) ((Below.refl _ w2).drew) ?_
      simp only [List.take_succ_cons, List.take_zero, List.drop_succ_cons, List.drop_zero]
      iterate 5
        (apply turnC_step (by rfl); (intro w' hw'; obtain ⟨p0, p1, p2, p3, p4, p5, p6, p7, p8, p9⟩ := HRD.out w' (hw'); go_simp; first | exact ⟨hw', rfl⟩ | exact rfl))
        simp only [Act.put, List.setIfInBounds_toArray, List.set_cons_succ, List.set_cons_zero]
      (apply turnC_step (by rfl); (intro w' hw'; go_simp; exact CPL1.out w2 w' hw'))
      simp only [Act.put, List.setIfInBounds_toArray, List.set_cons_succ, List.set_cons_zero]
      (apply turnC_step (by rfl); (intro w' hw'; go_simp; exact CAT1.out w2 w' HB0.out hw'))
      simp only [Act.put, List.setIfInBounds_toArray, List.set_cons_succ, List.set_cons_zero]
      iterate 1
        (apply turnC_step (by rfl); (intro w' hw'; obtain ⟨p0, p1, p2, p3, p4, p5, p6, p7, p8, p9⟩ := HRD.out w' (hw'); go_simp; first | exact ⟨hw', rfl⟩ | exact rfl))
        simp only [Act.put, List.setIfInBounds_toArray, List.set_cons_succ, List.set_cons_zero]
      (apply turnC_step (by rfl); (intro w' hw'; go_simp; first | exact congrArg (Value.int .i64) F1 | exact rfl))
      simp only [Act.put, List.setIfInBounds_toArray, List.set_cons_succ, List.set_cons_zero]
      intro listed w3 _ hw3
      have HD3 := Lib.hid hw3
      have HB3 := Lib.hid (HB0.out.trans (hw3.mono HB0.out.size))
      clear hw3
      go_wp2_with fail
      refine wp_region_turn 22 (fun _ w' => Below w3.heap.size w3 w') (by kernel_rfl) (by kernel_rfl) ((Below.refl _ w3).drew) ?_
      simp only [List.take_succ_cons, List.take_zero, List.drop_succ_cons, List.drop_zero]
      iterate 5
        (apply turnC_step (by rfl); (intro w' hw'; obtain ⟨p0, p1, p2, p3, p4, p5, p6, p7, p8, p9⟩ := HRD.out w' (HD3.out.trans (hw'.mono HD3.out.size)); go_simp; first | exact ⟨hw', rfl⟩ | exact rfl))
        simp only [Act.put, List.setIfInBounds_toArray, List.set_cons_succ, List.set_cons_zero]
      (apply turnC_step (by rfl); (intro w' hw'; go_simp; exact CPL1.out w3 w' hw'))
      simp only [Act.put, List.setIfInBounds_toArray, List.set_cons_succ, List.set_cons_zero]
      (apply turnC_step (by rfl); (intro w' hw'; go_simp; exact CAT1.out w3 w' HB3.out hw'))
      simp only [Act.put, List.setIfInBounds_toArray, List.set_cons_succ, List.set_cons_zero]
      iterate 2
        (apply turnC_step (by rfl); (intro w' hw'; obtain ⟨p0, p1, p2, p3, p4, p5, p6, p7, p8, p9⟩ := HRD.out w' (HD3.out.trans (hw'.mono HD3.out.size)); go_simp; first | exact ⟨hw', rfl⟩ | exact rfl))
        simp only [Act.put, List.setIfInBounds_toArray, List.set_cons_succ, List.set_cons_zero]
      (apply turnC_step (by rfl); (intro w' hw'; go_simp; first | exact congrArg (Value.int .i64) G1 | exact rfl))
      simp only [Act.put, List.setIfInBounds_toArray, List.set_cons_succ, List.set_cons_zero]
      (apply turnC_step (by rfl); (intro w' hw'; go_simp; first | exact congrArg (Value.int .i64) G2 | exact rfl))
      simp only [Act.put, List.setIfInBounds_toArray, List.set_cons_succ, List.set_cons_zero]
      iterate 5
        (apply turnC_step (by rfl); (intro w' hw'; obtain ⟨p0, p1, p2, p3, p4, p5, p6, p7, p8, p9⟩ := HRD.out w' (HD3.out.trans (hw'.mono HD3.out.size)); go_simp; first | exact ⟨hw', rfl⟩ | exact rfl))
        simp only [Act.put, List.setIfInBounds_toArray, List.set_cons_succ, List.set_cons_zero]
      (apply turnC_step (by rfl); (intro w' hw'; go_simp; first | exact congrArg (Value.int .i64) G5 | exact rfl))
      simp only [Act.put, List.setIfInBounds_toArray, List.set_cons_succ, List.set_cons_zero]
      (apply turnC_step (by rfl); (intro w' hw'; go_simp; exact CPL2.out w3 w' hw'))
      simp only [Act.put, List.setIfInBounds_toArray, List.set_cons_succ, List.set_cons_zero]
      (apply turnC_step (by rfl); (intro w' hw'; go_simp; exact CAT2.out hrr w3 w' HB3.out hw'))
      simp only [Act.put, List.setIfInBounds_toArray, List.set_cons_succ, List.set_cons_zero]
      iterate 1
        (apply turnC_step (by rfl); (intro w' hw'; obtain ⟨p0, p1, p2, p3, p4, p5, p6, p7, p8, p9⟩ := HRD.out w' (HD3.out.trans (hw'.mono HD3.out.size)); go_simp; first | exact ⟨hw', rfl⟩ | exact rfl))
        simp only [Act.put, List.setIfInBounds_toArray, List.set_cons_succ, List.set_cons_zero]
      (apply turnC_step (by rfl); (intro w' hw'; go_simp; first | exact congrArg (Value.int .i64) G3 | exact rfl))
      simp only [Act.put, List.setIfInBounds_toArray, List.set_cons_succ, List.set_cons_zero]
      (apply turnC_step (by rfl); (intro w' hw'; go_simp; first | exact congrArg (Value.int .i64) G4 | exact rfl))
      simp only [Act.put, List.setIfInBounds_toArray, List.set_cons_succ, List.set_cons_zero]
      intro listed w4 _ hw4
      have HD4 := Lib.hid (HD3.out.trans (hw4.mono HD3.out.size))
      have HB4 := Lib.hid (HB3.out.trans (hw4.mono HB3.out.size))
      clear hw4
      go_wp2_with fail
      refine wp_region_turn 8 (fun _ w' => Below w4.heap.size w4 w') (by kernel_rfl) (by kernel_rfl) ((Below.refl _ w4).drew) ?_
      simp only [List.take_succ_cons, List.take_zero, List.drop_succ_cons, List.drop_zero]
      iterate 3
        (apply turnC_step (by rfl); (intro w' hw'; obtain ⟨p0, p1, p2, p3, p4, p5, p6, p7, p8, p9⟩ := HRD.out w' (HD4.out.trans (hw'.mono HD4.out.size)); go_simp; first | exact ⟨hw', rfl⟩ | exact rfl))
        simp only [Act.put, List.setIfInBounds_toArray, List.set_cons_succ, List.set_cons_zero]
      (apply turnC_step (by rfl); (intro w' hw'; go_simp; exact CLO1.out w4 w' hw'))
      simp only [Act.put, List.setIfInBounds_toArray, List.set_cons_succ, List.set_cons_zero]
      iterate 2
        (apply turnC_step (by rfl); (intro w' hw'; obtain ⟨p0, p1, p2, p3, p4, p5, p6, p7, p8, p9⟩ := HRD.out w' (HD4.out.trans (hw'.mono HD4.out.size)); go_simp; first | exact ⟨hw', rfl⟩ | exact rfl))
        simp only [Act.put, List.setIfInBounds_toArray, List.set_cons_succ, List.set_cons_zero]
      (apply turnC_step (by rfl); (intro w' hw'; go_simp; exact CLO2.out w4 w' hw'))
      simp only [Act.put, List.setIfInBounds_toArray, List.set_cons_succ, List.set_cons_zero]
      iterate 1
        (apply turnC_step (by rfl); (intro w' hw'; obtain ⟨p0, p1, p2, p3, p4, p5, p6, p7, p8, p9⟩ := HRD.out w' (HD4.out.trans (hw'.mono HD4.out.size)); go_simp; first | exact ⟨hw', rfl⟩ | exact rfl))
        simp only [Act.put, List.setIfInBounds_toArray, List.set_cons_succ, List.set_cons_zero]
      intro listed w8 _ hw8
      have HB8 := Lib.hid (HB4.out.trans (hw8.mono HB4.out.size))
      obtain ⟨_, _, _, _, _, _, _, _, _, p9⟩ := HRD.out w8 (HD4.out.trans (hw8.mono HD4.out.size))
      have x0 := cellH p9 0
      have x1 := cellH p9 1
      have x2 := cellH p9 2
      have x3 := cellH p9 3
      have x4 := cellH p9 4
      have x5 := cellH p9 5
      have xf := freeH p9
      simp at x0 x1 x2 x3 x4 x5
      have HR := Lib.hid (heap_same (heap_same (heap_same (heap_same (heap_same (heap_same p9 0 (.int .i64 1)) 1 (.int .i64 k)) 2 (.int .i64 (lowP k n).1)) 3 (.int .i64 (lowP k n).2)) 4 (.int .i64 (lowP G n).1)) 5 (.int .i64 (lowP G n).2))
      have HB9 := Lib.hid ((((((HB8.out.setCell (p := ⟨w.heap.size + 4, 0, none⟩) (by simp) (.int .i64 1)).setCell (p := ⟨w.heap.size + 4, 1, none⟩) (by simp) (.int .i64 k)).setCell (p := ⟨w.heap.size + 4, 2, none⟩) (by simp) (.int .i64 (lowP k n).1)).setCell (p := ⟨w.heap.size + 4, 3, none⟩) (by simp) (.int .i64 (lowP k n).2)).setCell (p := ⟨w.heap.size + 4, 4, none⟩) (by simp) (.int .i64 (lowP G n).1)).setCell (p := ⟨w.heap.size + 4, 5, none⟩) (by simp) (.int .i64 (lowP G n).2))
      clear hw8 p9
      go_wp2_with fail
      exact bodyPost_ret (res_two Try.results108 _ _ (w.heap.size + 4) 71 #[.int .i64 1, .int .i64 k, .int .i64 (lowP k n).1, .int .i64 (lowP k n).2, .int .i64 (lowP G n).1, .int .i64 (lowP G n).2] (0, 0) _ rfl HR.out Try.underlying71 rfl info_pfs) rfl ⟨rfl, HB9.out⟩
  · have HG2 : Hid (h1 * n = G) := Lib.hid (by rw [HGR.out, if_neg hrr])
    have F1 : IntKind.i64.wrap (h1 * n) = G := by rw [← HG2.out]; exact IntWalk.i64_in _ (by omega)
    clear HA2 HGR n2 n3
    by_cases hal : b2 - a2 < 0
    case pos =>
      have e8 : wrap64 (a2 - k) = l := by rw [HLV.out, if_pos hal]; exact w64 (by have := HLV.out; rw [if_pos hal] at this; omega)
      go_enter Try.func108, Try.ntmps108
      go_wp2_with fail
      rw [← HW1.out]
      refine (HSZ.out _).mono ?_
      rintro e w2 ⟨rfl, rfl⟩
      obtain ⟨p0, p1, p2, p3, p4, p5, p6, p7, p8, p9⟩ := HRD.out w2 (Below.refl _ _)
      go_wp2_with fail
      clear p0 p1 p2 p3 p4 p5 p6 p7 p8 p9
      refine wp_region_turn 9 (fun _ w' => Below w2.heap.size w2 w') (by kernel_rfl) (by kernel_rfl) ((Below.refl _ w2).drew) ?_
      simp only [List.take_succ_cons, List.take_zero, List.drop_succ_cons, List.drop_zero]
      iterate 5
        (apply turnC_step (by rfl); (intro w' hw'; obtain ⟨p0, p1, p2, p3, p4, p5, p6, p7, p8, p9⟩ := HRD.out w' (hw'); go_simp; first | exact ⟨hw', rfl⟩ | exact rfl))
        simp only [Act.put, List.setIfInBounds_toArray, List.set_cons_succ, List.set_cons_zero]
      (apply turnC_step (by rfl); (intro w' hw'; go_simp; exact CPL1.out w2 w' hw'))
      simp only [Act.put, List.setIfInBounds_toArray, List.set_cons_succ, List.set_cons_zero]
      (apply turnC_step (by rfl); (intro w' hw'; go_simp; exact CAT1.out w2 w' HB0.out hw'))
      simp only [Act.put, List.setIfInBounds_toArray, List.set_cons_succ, List.set_cons_zero]
      iterate 1
        (apply turnC_step (by rfl); (intro w' hw'; obtain ⟨p0, p1, p2, p3, p4, p5, p6, p7, p8, p9⟩ := HRD.out w' (hw'); go_simp; first | exact ⟨hw', rfl⟩ | exact rfl))
        simp only [Act.put, List.setIfInBounds_toArray, List.set_cons_succ, List.set_cons_zero]
      (apply turnC_step (by rfl); (intro w' hw'; go_simp; first | exact congrArg (Value.int .i64) F1 | exact rfl))
      simp only [Act.put, List.setIfInBounds_toArray, List.set_cons_succ, List.set_cons_zero]
      intro listed w3 _ hw3
      have HD3 := Lib.hid hw3
      have HB3 := Lib.hid (HB0.out.trans (hw3.mono HB0.out.size))
      clear hw3
      go_wp2_with fail
      refine wp_region_turn 8 (fun _ w' => Below w3.heap.size w3 w') (by kernel_rfl) (by kernel_rfl) ((Below.refl _ w3).drew) ?_
      simp only [List.take_succ_cons, List.take_zero, List.drop_succ_cons, List.drop_zero]
      iterate 3
        (apply turnC_step (by rfl); (intro w' hw'; obtain ⟨p0, p1, p2, p3, p4, p5, p6, p7, p8, p9⟩ := HRD.out w' (HD3.out.trans (hw'.mono HD3.out.size)); go_simp; first | exact ⟨hw', rfl⟩ | exact rfl))
        simp only [Act.put, List.setIfInBounds_toArray, List.set_cons_succ, List.set_cons_zero]
      (apply turnC_step (by rfl); (intro w' hw'; go_simp; exact CLO1.out w3 w' hw'))
      simp only [Act.put, List.setIfInBounds_toArray, List.set_cons_succ, List.set_cons_zero]
      iterate 2
        (apply turnC_step (by rfl); (intro w' hw'; obtain ⟨p0, p1, p2, p3, p4, p5, p6, p7, p8, p9⟩ := HRD.out w' (HD3.out.trans (hw'.mono HD3.out.size)); go_simp; first | exact ⟨hw', rfl⟩ | exact rfl))
        simp only [Act.put, List.setIfInBounds_toArray, List.set_cons_succ, List.set_cons_zero]
      (apply turnC_step (by rfl); (intro w' hw'; go_simp; exact CLO2.out w3 w' hw'))
      simp only [Act.put, List.setIfInBounds_toArray, List.set_cons_succ, List.set_cons_zero]
      iterate 1
        (apply turnC_step (by rfl); (intro w' hw'; obtain ⟨p0, p1, p2, p3, p4, p5, p6, p7, p8, p9⟩ := HRD.out w' (HD3.out.trans (hw'.mono HD3.out.size)); go_simp; first | exact ⟨hw', rfl⟩ | exact rfl))
        simp only [Act.put, List.setIfInBounds_toArray, List.set_cons_succ, List.set_cons_zero]
      intro listed w8 _ hw8
      have HB8 := Lib.hid (HB3.out.trans (hw8.mono HB3.out.size))
      obtain ⟨_, _, _, _, _, _, _, _, _, p9⟩ := HRD.out w8 (HD3.out.trans (hw8.mono HD3.out.size))
      have x0 := cellH p9 0
      have x1 := cellH p9 1
      have x2 := cellH p9 2
      have x3 := cellH p9 3
      have x4 := cellH p9 4
      have x5 := cellH p9 5
      have xf := freeH p9
      simp at x0 x1 x2 x3 x4 x5
      have HR := Lib.hid (heap_same (heap_same (heap_same (heap_same (heap_same (heap_same p9 0 (.int .i64 1)) 1 (.int .i64 k)) 2 (.int .i64 (lowP k n).1)) 3 (.int .i64 (lowP k n).2)) 4 (.int .i64 (lowP G n).1)) 5 (.int .i64 (lowP G n).2))
      have HB9 := Lib.hid ((((((HB8.out.setCell (p := ⟨w.heap.size + 4, 0, none⟩) (by simp) (.int .i64 1)).setCell (p := ⟨w.heap.size + 4, 1, none⟩) (by simp) (.int .i64 k)).setCell (p := ⟨w.heap.size + 4, 2, none⟩) (by simp) (.int .i64 (lowP k n).1)).setCell (p := ⟨w.heap.size + 4, 3, none⟩) (by simp) (.int .i64 (lowP k n).2)).setCell (p := ⟨w.heap.size + 4, 4, none⟩) (by simp) (.int .i64 (lowP G n).1)).setCell (p := ⟨w.heap.size + 4, 5, none⟩) (by simp) (.int .i64 (lowP G n).2))
      clear hw8 p9
      go_wp2_with fail
      exact bodyPost_ret (res_two Try.results108 _ _ (w.heap.size + 4) 71 #[.int .i64 1, .int .i64 k, .int .i64 (lowP k n).1, .int .i64 (lowP k n).2, .int .i64 (lowP G n).1, .int .i64 (lowP G n).2] (0, 0) _ rfl HR.out Try.underlying71 rfl info_pfs) rfl ⟨rfl, HB9.out⟩
    case neg =>
      have e8 : wrap64 (a2 + k) = l := by rw [HLV.out, if_neg hal]; exact w64 (by have := HLV.out; rw [if_neg hal] at this; omega)
      go_enter Try.func108, Try.ntmps108
      go_wp2_with fail
      rw [← HW1.out]
      refine (HSZ.out _).mono ?_
      rintro e w2 ⟨rfl, rfl⟩
      obtain ⟨p0, p1, p2, p3, p4, p5, p6, p7, p8, p9⟩ := HRD.out w2 (Below.refl _ _)
      go_wp2_with fail
      clear p0 p1 p2 p3 p4 p5 p6 p7 p8 p9
      refine wp_region_turn 9 (fun _ w' => Below w2.heap.size w2 w') (by kernel_rfl) (by kernel_rfl) ((Below.refl _ w2).drew) ?_
      simp only [List.take_succ_cons, List.take_zero, List.drop_succ_cons, List.drop_zero]
      iterate 5
        (apply turnC_step (by rfl); (intro w' hw'; obtain ⟨p0, p1, p2, p3, p4, p5, p6, p7, p8, p9⟩ := HRD.out w' (hw'); go_simp; first | exact ⟨hw', rfl⟩ | exact rfl))
        simp only [Act.put, List.setIfInBounds_toArray, List.set_cons_succ, List.set_cons_zero]
      (apply turnC_step (by rfl); (intro w' hw'; go_simp; exact CPL1.out w2 w' hw'))
      simp only [Act.put, List.setIfInBounds_toArray, List.set_cons_succ, List.set_cons_zero]
      (apply turnC_step (by rfl); (intro w' hw'; go_simp; exact CAT1.out w2 w' HB0.out hw'))
      simp only [Act.put, List.setIfInBounds_toArray, List.set_cons_succ, List.set_cons_zero]
      iterate 1
        (apply turnC_step (by rfl); (intro w' hw'; obtain ⟨p0, p1, p2, p3, p4, p5, p6, p7, p8, p9⟩ := HRD.out w' (hw'); go_simp; first | exact ⟨hw', rfl⟩ | exact rfl))
        simp only [Act.put, List.setIfInBounds_toArray, List.set_cons_succ, List.set_cons_zero]
      (apply turnC_step (by rfl); (intro w' hw'; go_simp; first | exact congrArg (Value.int .i64) F1 | exact rfl))
      simp only [Act.put, List.setIfInBounds_toArray, List.set_cons_succ, List.set_cons_zero]
      intro listed w3 _ hw3
      have HD3 := Lib.hid hw3
      have HB3 := Lib.hid (HB0.out.trans (hw3.mono HB0.out.size))
      clear hw3
      go_wp2_with fail
      refine wp_region_turn 8 (fun _ w' => Below w3.heap.size w3 w') (by kernel_rfl) (by kernel_rfl) ((Below.refl _ w3).drew) ?_
      simp only [List.take_succ_cons, List.take_zero, List.drop_succ_cons, List.drop_zero]
      iterate 3
        (apply turnC_step (by rfl); (intro w' hw'; obtain ⟨p0, p1, p2, p3, p4, p5, p6, p7, p8, p9⟩ := HRD.out w' (HD3.out.trans (hw'.mono HD3.out.size)); go_simp; first | exact ⟨hw', rfl⟩ | exact rfl))
        simp only [Act.put, List.setIfInBounds_toArray, List.set_cons_succ, List.set_cons_zero]
      (apply turnC_step (by rfl); (intro w' hw'; go_simp; exact CLO1.out w3 w' hw'))
      simp only [Act.put, List.setIfInBounds_toArray, List.set_cons_succ, List.set_cons_zero]
      iterate 2
        (apply turnC_step (by rfl); (intro w' hw'; obtain ⟨p0, p1, p2, p3, p4, p5, p6, p7, p8, p9⟩ := HRD.out w' (HD3.out.trans (hw'.mono HD3.out.size)); go_simp; first | exact ⟨hw', rfl⟩ | exact rfl))
        simp only [Act.put, List.setIfInBounds_toArray, List.set_cons_succ, List.set_cons_zero]
      (apply turnC_step (by rfl); (intro w' hw'; go_simp; exact CLO2.out w3 w' hw'))
      simp only [Act.put, List.setIfInBounds_toArray, List.set_cons_succ, List.set_cons_zero]
      iterate 1
        (apply turnC_step (by rfl); (intro w' hw'; obtain ⟨p0, p1, p2, p3, p4, p5, p6, p7, p8, p9⟩ := HRD.out w' (HD3.out.trans (hw'.mono HD3.out.size)); go_simp; first | exact ⟨hw', rfl⟩ | exact rfl))
        simp only [Act.put, List.setIfInBounds_toArray, List.set_cons_succ, List.set_cons_zero]
      intro listed w8 _ hw8
      have HB8 := Lib.hid (HB3.out.trans (hw8.mono HB3.out.size))
      obtain ⟨_, _, _, _, _, _, _, _, _, p9⟩ := HRD.out w8 (HD3.out.trans (hw8.mono HD3.out.size))
      have x0 := cellH p9 0
      have x1 := cellH p9 1
      have x2 := cellH p9 2
      have x3 := cellH p9 3
      have x4 := cellH p9 4
      have x5 := cellH p9 5
      have xf := freeH p9
      simp at x0 x1 x2 x3 x4 x5
      have HR := Lib.hid (heap_same (heap_same (heap_same (heap_same (heap_same (heap_same p9 0 (.int .i64 1)) 1 (.int .i64 k)) 2 (.int .i64 (lowP k n).1)) 3 (.int .i64 (lowP k n).2)) 4 (.int .i64 (lowP G n).1)) 5 (.int .i64 (lowP G n).2))
      have HB9 := Lib.hid ((((((HB8.out.setCell (p := ⟨w.heap.size + 4, 0, none⟩) (by simp) (.int .i64 1)).setCell (p := ⟨w.heap.size + 4, 1, none⟩) (by simp) (.int .i64 k)).setCell (p := ⟨w.heap.size + 4, 2, none⟩) (by simp) (.int .i64 (lowP k n).1)).setCell (p := ⟨w.heap.size + 4, 3, none⟩) (by simp) (.int .i64 (lowP k n).2)).setCell (p := ⟨w.heap.size + 4, 4, none⟩) (by simp) (.int .i64 (lowP G n).1)).setCell (p := ⟨w.heap.size + 4, 5, none⟩) (by simp) (.int .i64 (lowP G n).2))
      clear hw8 p9
      go_wp2_with fail
      exact bodyPost_ret (res_two Try.results108 _ _ (w.heap.size + 4) 71 #[.int .i64 1, .int .i64 k, .int .i64 (lowP k n).1, .int .i64 (lowP k n).2, .int .i64 (lowP G n).1, .int .i64 (lowP G n).2] (0, 0) _ rfl HR.out Try.underlying71 rfl info_pfs) rfl ⟨rfl, HB9.out⟩
end Go.Proofs.Ytnacgogcbbpjmaa
