/- The walk of RelayDual. -/
import Derived.Test.YtiboolbndfhomaaND5
import Derived.Test.YtiboolbndfhomaaNC7
set_option linter.unusedVariables false
set_option linter.unusedSimpArgs false
namespace Go.Proofs.Ytiboolbndfhomaa
open Go.RowKit

theorem turnC_skip {P : Program} {ops : Array Oper} {md : Region.Mode} {n : Nat} {W0 : World} {Q : Act → Prop} {o : Oper} {rest : List Oper} {k : Nat} {a : Act} (hw : Region.wanted o (yielded ops a.tmps) = false)
    (h2 : wpTurn P ops md n (fun _ w' => Below W0.heap.size W0 w') Q rest (k + 1) (a.put o.dst undef)) :
    wpTurn P ops md n (fun _ w' => Below W0.heap.size W0 w') Q (o :: rest) k a := ⟨undef, .inr ⟨hw, rfl, fun _ _ _ _ hC => hC⟩, h2⟩

set_option maxRecDepth 100000 in
set_option maxHeartbeats 8000000 in
theorem dual_law (st : Int) (o : Value) (ls : List Lk) (a b t n u : Int) (W : World) (hv : NRow W o ls) (hst : -9223372036854775808 ≤ st ∧ st ≤ 9223372036854775807) (ha : -9223372036854775808 ≤ a ∧ a ≤ 9223372036854775807) (hb : -9223372036854775808 ≤ b ∧ b ≤ 9223372036854775807) (ht : -9223372036854775808 ≤ t ∧ t ≤ 9223372036854775807)
    (hn : 0 ≤ n ∧ n ≤ 65535) (hu : -9223372036854775808 ≤ u ∧ u ≤ 9223372036854775807) :
    Calls Try.prog 8 #[ntV st o, .int .i64 a, .int .i64 b, .int .i64 t, .int .u16 n, .int .i64 u] W fun e w' => e = .returned (.bool true) ∧ Below W.heap.size W w' := by
  obtain ⟨oa, oc, rfl, _⟩ := hv.row.form
  have HV := Lib.hid hv
  have HC1 := Lib.hid (fun w' (h : Below W.heap.size W w') => few_any st (.slice oa ls.length oc) ls w' (hv.keep h))
  have HC2 := Lib.hid (fun t w' (h : Below W.heap.size W w') => Earliest_any st (.slice oa ls.length oc) ls a t w' (hv.keep h))
  have HC3 := Lib.hid (fun w' (h : Below W.heap.size W w') => Latest_any st (.slice oa ls.length oc) ls b u w' (hv.keep h))
  unfold ntV at HC1 HC2 HC3 ⊢
  have HA := Lib.hid (fun W' => net_cells W st (.slice oa ls.length oc) (W := W'))
  have HB0 := Lib.hid ((Below.refl _ W).alloc (Nat.le_refl W.heap.size) (.cells #[.int .i64 st, .slice oa ls.length oc] 24))
  obtain ⟨W1, hW1⟩ : ∃ W1, W.alloc (.cells #[.int .i64 st, .slice oa ls.length oc] 24) = W1 := ⟨_, rfl⟩
  rw [hW1] at HA HB0
  have HW1 := Lib.hid hW1
  clear hv hW1
  cases hf : fewB ls
  · rw [hf] at HC1
    clear hf
    go_enter Try.func8, Try.ntmps8
    go_wp2_with fail
    rw [HW1.out]
    refine (HC1.out _ HB0.out).mono ?_
    rintro e w3 ⟨rfl, hb3⟩
    have HB3 := Lib.hid (HB0.out.trans (hb3.mono HB0.out.size))
    clear hb3
    go_wp2_with fail
    refine (nets_any _).mono ?_
    rintro e wN ⟨rfl, hb⟩
    have HN := Lib.hid (HB3.out.trans (hb.mono HB3.out.size))
    clear hb
    go_wp2_with fail
    go_ret
    exact ⟨rfl, HN.out⟩
  rw [hf] at HC1
  clear hf
  by_cases hE : startE st ls a t = 0
  case neg =>
    have hz : (startE st ls a t != 0) = true := by simpa using hE
    have HE := Lib.hid hE
    obtain ⟨q, hq⟩ : ∃ q, startE st ls a t = q := ⟨_, rfl⟩
    rw [hq] at hz
    have HQ := Lib.hid hq
    clear hE hq
    go_enter Try.func8, Try.ntmps8
    go_wp2_with fail
    rw [HW1.out]
    refine (HC1.out _ HB0.out).mono ?_
    rintro e w3 ⟨rfl, hb3⟩
    obtain ⟨n0, n1, _, hw3⟩ := HA.out w3 hb3
    have HD3 := Lib.hid hb3
    have HB3 := Lib.hid hw3
    clear hb3 hw3
    go_wp2_with fail
    refine (HC2.out t _ HB3.out).mono ?_
    rintro e w4 ⟨v4, rfl, hb4, he4, _⟩
    obtain rfl := he4 HE.out
    rw [HQ.out]
    have HB4 := Lib.hid (HB3.out.trans (hb4.mono HB3.out.size))
    have HD4 := Lib.hid (HD3.out.trans (hb4.mono HD3.out.size))
    clear hb4 he4 n0 n1
    obtain ⟨n0, n1, _, _⟩ := HA.out w4 HD4.out
    go_wp2_with fail
    refine (HC3.out _ HB4.out).mono ?_
    rintro e w5 ⟨v5, rfl, hb5, _, _⟩
    have HB5 := Lib.hid (HB4.out.trans (hb5.mono HB4.out.size))
    clear hb5 n0 n1
    go_wp2_with fail
    refine (nets_any _).mono ?_
    rintro e wN ⟨rfl, hb⟩
    have HN := Lib.hid (HB5.out.trans (hb.mono HB5.out.size))
    clear hb
    go_wp2_with fail
    go_ret
    exact ⟨rfl, HN.out⟩
  obtain ⟨hne, a0, a1, t0, t1⟩ := startE_ok hE
  obtain ⟨s1, s10, l40, hks⟩ := netE_ok hne
  obtain ⟨m, rfl⟩ : ∃ m : Nat, a = m := ⟨a.toNat, by omega⟩
  obtain ⟨s, rfl⟩ : ∃ s : Nat, st = s := ⟨st.toNat, by omega⟩
  have HE := Lib.hid hE
  have HNE := Lib.hid (And.intro l40 hks)
  have hms : m < s := by omega
  have hmi : (m : Int) < s := by omega
  have hm0 : (0 : Int) ≤ m := by omega
  clear hE hne a0 a1 hks l40 hst ha ht hu
  by_cases hFE : startE s ls b u = 0
  case neg =>
    have hz : (startE s ls b u != 0) = true := by simpa using hFE
    have HFE := Lib.hid hFE
    obtain ⟨q, hq⟩ : ∃ q, startE s ls b u = q := ⟨_, rfl⟩
    rw [hq] at hz
    have HQ := Lib.hid hq
    clear hFE hq
    go_enter Try.func8, Try.ntmps8
    go_wp2_with fail
    rw [HW1.out]
    refine (HC1.out _ HB0.out).mono ?_
    rintro e w3 ⟨rfl, hb3⟩
    obtain ⟨n0, n1, _, hw3⟩ := HA.out w3 hb3
    have HD3 := Lib.hid hb3
    have HB3 := Lib.hid hw3
    clear hb3 hw3
    go_wp2_with fail
    refine (HC2.out t _ HB3.out).mono ?_
    rintro e w4 ⟨v4, rfl, hb4, _, _⟩
    rw [HE.out]
    have HB4 := Lib.hid (HB3.out.trans (hb4.mono HB3.out.size))
    have HD4 := Lib.hid (HD3.out.trans (hb4.mono HD3.out.size))
    clear hb4 n0 n1
    obtain ⟨n0, n1, _, _⟩ := HA.out w4 HD4.out
    go_wp2_with fail
    refine (HC3.out _ HB4.out).mono ?_
    rintro e w5 ⟨v5, rfl, hb5, _, _⟩
    rw [HQ.out]
    have HB5 := Lib.hid (HB4.out.trans (hb5.mono HB4.out.size))
    clear hb5 n0 n1
    go_wp2_with fail
    refine (nets_any _).mono ?_
    rintro e wN ⟨rfl, hb⟩
    have HN := Lib.hid (HB5.out.trans (hb.mono HB5.out.size))
    clear hb
    go_wp2_with fail
    go_ret
    exact ⟨rfl, HN.out⟩
  obtain ⟨_, b0, b1, u0, u1⟩ := startE_ok hFE
  obtain ⟨g, rfl⟩ : ∃ g : Nat, b = g := ⟨b.toNat, by omega⟩
  have hgs : g < s := by omega
  have hgi : (g : Int) < s := by omega
  have hg0 : (0 : Int) ≤ g := by omega
  have HFE := Lib.hid hFE
  have HT0 := Lib.hid t0
  have hwr : IntKind.i64.wrap (t + n) = t + n := IntWalk.i64_in _ (by omega)
  obtain ⟨hn0, hn1⟩ := hn
  clear hFE b0 b1 hb s1
  go_enter Try.func8, Try.ntmps8
  go_wp2_with fail
  rw [HW1.out]
  refine (HC1.out _ HB0.out).mono ?_
  rintro e w3 ⟨rfl, hb3⟩
  have HD3 := Lib.hid hb3
  obtain ⟨n0, n1, _, hw3⟩ := HA.out w3 hb3
  have HB3 := Lib.hid hw3
  clear hb3 hw3
  go_wp2_with fail
  refine (HC2.out t _ HB3.out).mono ?_
  rintro e w4 ⟨v4, rfl, hb4, _, he4⟩
  obtain ⟨at', by', h1, h2, h3⟩ := he4 HE.out
  rw [HE.out]
  simp only [Int.toNat_natCast] at h2
  have HI := Lib.hid h2
  have HS := Lib.hid h3
  obtain ⟨a4, p4, rfl, hcells⟩ := h1.form
  have hla := h2.la
  rw [hla] at hcells ⊢
  obtain ⟨bk, off, rfl, hbk, cg⟩ := hcells g hgs
  have HCE : Hid (∀ W', Below w4.heap.size w4 W' → ∀ k, k < s → W'.cell? ⟨bk, off + k, none⟩ = some (.int .i64 (at0 at' k))) := Lib.hid (fun W' h k hk => by
    obtain ⟨b', o', e', hlt, hc⟩ := hcells k hk
    cases e'
    exact (h.cell (p := ⟨bk, _, none⟩) hlt).trans hc)
  have HB4 := Lib.hid (HB3.out.trans (hb4.mono HB3.out.size))
  have HD4 := Lib.hid (HD3.out.trans (hb4.mono HD3.out.size))
  clear hb4 he4 n0 n1 h1 h2 h3 hcells hbk cg hla
  obtain ⟨n0, n1, _, _⟩ := HA.out w4 HD4.out
  go_wp2_with fail
  refine (HC3.out _ HB4.out).mono ?_
  rintro e w5 ⟨v5, rfl, hb5, _, he5⟩
  obtain ⟨lt', h1, h2, h3⟩ := he5 HFE.out
  rw [HFE.out]
  simp only [Int.toNat_natCast] at h2
  have HDU := Lib.hid (dual HI.out HS.out h2 h3 HT0.out)
  obtain ⟨a5, p5, rfl, hcells⟩ := h1.form
  have hla := h2.la
  rw [hla] at hcells ⊢
  obtain ⟨bl, ol, rfl, hbl, cm⟩ := hcells m hms
  have HQ5 := Lib.hid hb5
  have CZ : Hid (∀ W', Below w5.heap.size w5 W' → W'.cell? ⟨bl, ol + m, none⟩ = some (.int .i64 (at0 lt' m))) := Lib.hid (fun W' h => (h.cell (p := ⟨bl, _, none⟩) hbl).trans cm)
  have CY : Hid (∀ W', Below w5.heap.size w5 W' → W'.cell? ⟨bk, off + g, none⟩ = some (.int .i64 (at0 at' g))) := Lib.hid (fun W' h => HCE.out W' (HQ5.out.trans (h.mono HQ5.out.size)) g hgs)
  have HB5 := Lib.hid (HB4.out.trans (hb5.mono HB4.out.size))
  have HD5 := Lib.hid (HD4.out.trans (hb5.mono HD4.out.size))
  obtain ⟨y, hy⟩ : ∃ y, at0 at' g = y := ⟨_, rfl⟩
  obtain ⟨z, hz⟩ : ∃ z, at0 lt' m = z := ⟨_, rfl⟩
  rw [hy] at CY HDU
  rw [hz] at CZ HDU
  have hcase : (y < 0 ∧ z < t) ∨ (0 ≤ y ∧ y ≤ u ∧ t ≤ z) ∨ (0 ≤ y ∧ u < y ∧ z < t) := by have := HDU.out; omega
  clear hb5 he5 n0 n1 h1 h2 h3 hcells hbl cm hla hy hz
  obtain ⟨n0, n1, _, _⟩ := HA.out w5 HD5.out
  go_wp2_with fail
  refine (HC2.out (t + n) _ HB5.out).mono ?_
  rintro e w6 ⟨v6, rfl, hb6, he6, he7⟩
  have HB6 := Lib.hid (HB5.out.trans (hb6.mono HB5.out.size))
  have HD6 := Lib.hid (HD5.out.trans (hb6.mono HD5.out.size))
  have HQ6 := Lib.hid hb6
  obtain ⟨G, hG⟩ : ∃ G, startE s ls m (t + n) = G := ⟨_, rfl⟩
  rw [hG] at he6 he7 ⊢
  clear hb6 n0 n1 hG
  obtain ⟨n0, n1, _, _⟩ := HA.out w6 HD6.out
  have HE6 := Lib.hid he6
  have HE7 := Lib.hid he7
  clear he6 he7
  rcases hcase with ⟨hy0, hy1⟩ | ⟨hy0, hy1, hy2⟩ | ⟨hy0, hy1, hy2⟩
  case' inl =>
    have y1 : decide (0 ≤ y) = false := decide_eq_false (by omega)
    have y3 : decide (t ≤ z) = false := decide_eq_false (by omega)
  case' inr.inr =>
    have y2 : decide (y ≤ u) = false := decide_eq_false (by omega)
    have y3 : decide (t ≤ z) = false := decide_eq_false (by omega)
  all_goals
    by_cases hG : G = 0
    case neg =>
      have gz : (G == 0) = false := by simpa using hG
      obtain rfl := HE6.out hG
      clear hG
      obtain ⟨W9, hW9⟩ : ∃ W9, w6 = W9 := ⟨_, rfl⟩
      have HB9 := Lib.hid HB6.out
      have HQ9 := Lib.hid HQ6.out
      rw [hW9] at HB9 HQ9
      have HWW := Lib.hid hW9
      clear hW9
      have K0 : Hid (∀ W', Below W9.heap.size W9 W' → W'.cell? ⟨bk, off + g, none⟩ = some (.int .i64 y) ∧ W'.cell? ⟨bl, ol + m, none⟩ = some (.int .i64 z)) := Lib.hid (fun W' h => ⟨CY.out W' (HQ9.out.trans (h.mono HQ9.out.size)), CZ.out W' (HQ9.out.trans (h.mono HQ9.out.size))⟩)
      have CN : Hid (∀ w', Below W9.heap.size W9 w' → Calls Try.prog 11 #[] w' fun e w'' => e = .returned (.bool true) ∧ Below W9.heap.size W9 w'') := Lib.hid (fun w' h => (nets_any w').mono fun e w'' ⟨he, hh⟩ => ⟨he, h.trans (hh.mono h.size)⟩)
      go_wp2_with fail
      rw [HWW.out]
      refine wp_region_turn 23 (fun _ w' => Below W9.heap.size W9 w') (by kernel_rfl) (by kernel_rfl) ((Below.refl _ W9).drew) ?_
      simp only [List.take_succ_cons, List.take_zero, List.drop_succ_cons, List.drop_zero]
      iterate 23
        (first
          | (apply turnC_step (by rfl); (intro w' hw'; go_simp; exact CN.out w' hw'))
          | (apply turnC_step (by rfl); (intro w' hw'; obtain ⟨q0, q1⟩ := K0.out w' hw'; go_simp; first | exact ⟨hw', rfl⟩ | exact rfl))
          | (apply turnC_skip (by rfl)))
        simp only [Act.put, List.setIfInBounds_toArray, List.set_cons_succ, List.set_cons_zero]
      intro listed w10 _ hw10
      have HB10 := Lib.hid (HB9.out.trans (hw10.mono HB9.out.size))
      clear hw10
      go_wp2_with fail
      go_ret
      exact ⟨rfl, HB10.out⟩
    subst hG
    obtain ⟨ft, fy, h1, h2, h3⟩ := HE7.out rfl
    simp only [Int.toNat_natCast] at h2
    have HLT := Lib.hid (fun k (hk : k < s) (h0 : 0 ≤ at0 ft k) => later HI.out HS.out h2 (by omega) hk h0)
    obtain ⟨a6, p6, rfl, hcells⟩ := h1.form
    have hla := h2.la
    rw [hla] at hcells ⊢
    obtain ⟨bc, oc6, rfl, hbc, cg6⟩ := hcells g hgs
    have HCC : Hid (∀ W', Below w6.heap.size w6 W' → ∀ k, k < s → W'.cell? ⟨bc, oc6 + k, none⟩ = some (.int .i64 (at0 ft k))) := Lib.hid (fun W' h k hk => by
      obtain ⟨b', o', e', hlt, hc⟩ := hcells k hk
      cases e'
      exact (h.cell (p := ⟨bc, _, none⟩) hlt).trans hc)
    clear h1 h2 h3 hcells hbc cg6 hla
    go_wp2_with fail
    go_loopw [19] (fun i wr => ∃ k : Nat, k ≤ s ∧ i = .int .i64 k ∧ Hid (Below w6.heap.size w6 wr)) (fun i _ => s - (intOf i).toNat)
    case atStart => exact ⟨0, Nat.zero_le _, rfl, Lib.hid (Below.refl _ _)⟩
    case round =>
      clear n0 n1
      obtain ⟨k, hk, rfl, hBr⟩ := hrel
      obtain ⟨n0, n1, _, _⟩ := HA.out wr (HD6.out.trans (hBr.out.mono HD6.out.size))
      by_cases hkl : k < s
      · have HKL := Lib.hid hkl
        have hki : (k : Int) < s := by omega
        have hk0 : (0 : Int) ≤ k := by omega
        have ca := HCE.out wr (HQ5.out.trans ((HQ6.out.trans (hBr.out.mono HQ6.out.size)).mono HQ5.out.size)) k hkl
        have cb := HCC.out wr hBr.out k hkl
        have hq := HLT.out k hkl
        obtain ⟨x1, hx1⟩ : ∃ x, at0 at' k = x := ⟨_, rfl⟩
        obtain ⟨x2, hx2⟩ : ∃ x, at0 ft k = x := ⟨_, rfl⟩
        rw [hx1] at ca hq
        rw [hx2] at cb hq
        clear hx1 hx2
        by_cases hu0 : 0 ≤ x2
        · obtain ⟨hq1, hq2⟩ := hq hu0
          have q1 : decide (x1 < 0) = false := decide_eq_false (by omega)
          have q2 : decide (x2 < x1) = false := decide_eq_false (by omega)
          go_wp2_with fail
          go_quiet (fail)
          go_wp2_with fail
          go_roundw
          case rel => exact ⟨k + 1, HKL.out, by go_num, Lib.hid (below_drewN hBr.out _)⟩
          case measure => have := HKL.out; simp [intOf]; omega
        · have q1 : decide (0 ≤ x2) = false := decide_eq_false (by omega)
          clear hq
          go_wp2_with fail
          go_quiet (fail)
          go_wp2_with fail
          go_roundw
          case rel => exact ⟨k + 1, HKL.out, by go_num, Lib.hid (below_drewN hBr.out _)⟩
          case measure => have := HKL.out; simp [intOf]; omega
      · obtain rfl : k = s := by omega
        have HBr := Lib.hid (HB6.out.trans (hBr.out.mono HB6.out.size))
        have HDr := Lib.hid (HD6.out.trans (hBr.out.mono HD6.out.size))
        have HQr := Lib.hid (HQ6.out.trans (hBr.out.mono HQ6.out.size))
        obtain ⟨W9, hW9⟩ : ∃ W9, wr = W9 := ⟨_, rfl⟩
        have HB9 := Lib.hid HBr.out
        have HQ9 := Lib.hid HQr.out
        rw [hW9] at HB9 HQ9
        have HWW := Lib.hid hW9
        clear hW9
        have K0 : Hid (∀ W', Below W9.heap.size W9 W' → W'.cell? ⟨bk, off + g, none⟩ = some (.int .i64 y) ∧ W'.cell? ⟨bl, ol + m, none⟩ = some (.int .i64 z)) := Lib.hid (fun W' h => ⟨CY.out W' (HQ9.out.trans (h.mono HQ9.out.size)), CZ.out W' (HQ9.out.trans (h.mono HQ9.out.size))⟩)
        have CN : Hid (∀ w', Below W9.heap.size W9 w' → Calls Try.prog 11 #[] w' fun e w'' => e = .returned (.bool true) ∧ Below W9.heap.size W9 w'') := Lib.hid (fun w' h => (nets_any w').mono fun e w'' ⟨he, hh⟩ => ⟨he, h.trans (hh.mono h.size)⟩)
        go_wp2_with fail
        rw [HWW.out]
        refine wp_region_turn 23 (fun _ w' => Below W9.heap.size W9 w') (by kernel_rfl) (by kernel_rfl) ((Below.refl _ W9).drew) ?_
        simp only [List.take_succ_cons, List.take_zero, List.drop_succ_cons, List.drop_zero]
        iterate 23
          (first
            | (apply turnC_step (by rfl); (intro w' hw'; go_simp; exact CN.out w' hw'))
            | (apply turnC_step (by rfl); (intro w' hw'; obtain ⟨q0, q1⟩ := K0.out w' hw'; go_simp; first | exact ⟨hw', rfl⟩ | exact rfl))
            | (apply turnC_skip (by rfl)))
          simp only [Act.put, List.setIfInBounds_toArray, List.set_cons_succ, List.set_cons_zero]
        intro listed w10 _ hw10
        have HB10 := Lib.hid (HB9.out.trans (hw10.mono HB9.out.size))
        clear hw10
        go_wp2_with fail
        go_ret
        exact ⟨rfl, HB10.out⟩
end Go.Proofs.Ytiboolbndfhomaa
