/- The walk of RelayWays. -/
import Derived.Test.YteghcdabaigcbaaND5
import Derived.Test.YteghcdabaigcbaaNE5
import Derived.Test.YteghcdabaigcbaaNE6
set_option linter.unusedVariables false
set_option linter.unusedSimpArgs false
namespace Go.Proofs.Yteghcdabaigcbaa
open Go.RowKit

/-- The error of a way, and the minute at which it arrives. -/
def WP (st : Int) (ls : List Lk) (a b t q y : Int) : Prop := (wayE st ls a b t ≠ 0 ∧ q = wayE st ls a b t ∧ y = 0) ∨
  (wayE st ls a b t = 0 ∧ ∃ at' by', Inv st.toNat ls a.toNat t at' by' ∧ Shut ls at' ∧ ((at0 at' b.toNat < 0 ∧ q = 5 ∧ y = 0) ∨ (0 ≤ at0 at' b.toNat ∧ q = 0 ∧ y = at0 at' b.toNat)))
theorem WP.unique {st : Int} {ls : List Lk} {a b t q y q' y' : Int} (h : WP st ls a b t q y) (k : WP st ls a b t q' y') : q = q' ∧ y = y' := by
  rcases h with ⟨h0, h1, h2⟩ | ⟨h0, x, u, h1, h2, h3⟩
  · rcases k with ⟨k0, k1, k2⟩ | ⟨k0, _⟩
    · exact ⟨by rw [h1, k1], by rw [h2, k2]⟩
    · exact absurd k0 h0
  · rcases k with ⟨k0, _⟩ | ⟨k0, x', u', k1, k2, k3⟩
    · exact absurd h0 k0
    · obtain rfl := Inv.unique h1 k1 h2 k2
      omega
theorem arr_in {st : Int} {ls : List Lk} {a b t : Int} {w w' : World} {e : Ending} (h : ArrOut st ls a b t w e w') : ∃ y q : Int, e = .returned (.tuple #[.int .i64 y, .int .i64 q]) ∧ Below w.heap.size w w' ∧ WP st ls a b t q y := by
  obtain ⟨x, q, rfl, hb, h1, h2⟩ := h
  refine ⟨x, q, rfl, hb, ?_⟩
  by_cases hE : wayE st ls a b t = 0
  · obtain ⟨at', by', k1, k2, k3⟩ := h2 hE
    exact .inr ⟨hE, at', by', k1, k2, by omega⟩
  · obtain ⟨k1, k2⟩ := h1 hE
    exact .inl ⟨hE, k2, k1⟩
theorem way_in {st : Int} {ls : List Lk} {a b t : Int} {w w' : World} {e : Ending} (h : WayOut st ls a b t w e w') : ∃ (v : Value) (q y : Int) (lw : List Sp), e = .returned (.tuple #[v, .int .i64 q]) ∧ Below w.heap.size w w' ∧ SpRow w' v lw ∧ WP st ls a b t q y ∧
    (q ≠ 0 → v = .slice none 0 0) ∧ (q = 0 → wayR st ls a b t lw = (y, 0)) := by
  by_cases hE : wayE st ls a b t = 0
  · obtain ⟨hs, hbs⟩ := wayE_ok hE
    obtain ⟨hne, a0, a1, t0, t1⟩ := startE_ok hs
    obtain ⟨s1, s10, l40, hks⟩ := netE_ok hne
    unfold stB at hbs
    simp only [Bool.and_eq_true, decide_eq_true_eq] at hbs
    obtain ⟨m, rfl⟩ : ∃ m : Nat, a = m := ⟨a.toNat, by omega⟩
    obtain ⟨g, rfl⟩ : ∃ m : Nat, b = m := ⟨b.toNat, by omega⟩
    obtain ⟨s, rfl⟩ : ∃ s : Nat, st = s := ⟨st.toNat, by omega⟩
    have h9 := h
    obtain ⟨v0, q0, _, _, _, h2⟩ := h9
    obtain ⟨at', by', hI, hS, _⟩ := h2 hE
    simp only [Int.toNat_natCast] at hI
    obtain ⟨v, q, lw, c1, c2, rfl, hb, hr, hw, hq⟩ := way_out hE hks hI hS l40 (by omega) (by omega) h
    rcases hq with ⟨h0, rfl⟩ | ⟨h0, rfl, rfl, rfl⟩
    · obtain ⟨v', q', e', _, _, h2'⟩ := h
      obtain ⟨x, u, hI2, hS2, h3⟩ := h2' hE
      simp only [Int.toNat_natCast] at hI2 h3
      obtain rfl := Inv.unique hI2 hI hS2 hS
      rcases h3 with ⟨_, rfl, rfl⟩ | ⟨h3, _⟩
      · cases e'
        exact ⟨_, 5, 0, lw, rfl, hb, hr, .inr ⟨hE, x, u, by simpa using hI2, hS, .inl ⟨by simpa using h0, rfl, rfl⟩⟩, fun _ => rfl, fun h => absurd h (by decide)⟩
      · omega
    · exact ⟨v, 0, at0 at' g, lw, rfl, hb, hr, .inr ⟨hE, at', by', by simpa using hI, hS, .inr ⟨by simpa using h0, rfl, by simp⟩⟩, fun h => absurd rfl h, fun _ => hw⟩
  · obtain ⟨v, q, rfl, hb, h1, _⟩ := h
    obtain ⟨rfl, rfl⟩ := h1 hE
    exact ⟨_, _, 0, [], rfl, hb, SpRow.nil _, .inl ⟨hE, rfl, rfl⟩, fun _ => rfl, fun h => absurd h hE⟩

set_option maxRecDepth 100000 in
set_option maxHeartbeats 8000000 in
theorem ways_law (st : Int) (o : Value) (ls : List Lk) (a b t : Int) (vl : Value) (l : List Sp) (vb : Value) (bs : List Int) (W : World) (hv : NRow W o ls) (hst : -9223372036854775808 ≤ st ∧ st ≤ 9223372036854775807) (ha : -9223372036854775808 ≤ a ∧ a ≤ 9223372036854775807) (hb : -9223372036854775808 ≤ b ∧ b ≤ 9223372036854775807) (ht : -9223372036854775808 ≤ t ∧ t ≤ 9223372036854775807)
    (hs : SpRow W vl l) (hl : l.length ≤ 9223372036854775807) (hs5 : INRow W vb bs) (hl5 : bs.length ≤ 9223372036854775807) :
    Calls Try.prog 5 #[ntV st o, .int .i64 a, .int .i64 b, .int .i64 t, vl, vb] W fun e w' => e = .returned (.bool true) ∧ Below W.heap.size W w' := by
  obtain ⟨oa, oc, rfl, _⟩ := hv.row.form
  obtain ⟨la, lc, rfl, _⟩ := hs.form
  obtain ⟨ba, bc, rfl, _⟩ := hs5.form
  have HV := Lib.hid hv
  have HL := Lib.hid hs
  have HBS := Lib.hid hs5
  have HC1 := Lib.hid (fun w' (h : Below W.heap.size W w') => few_any st (.slice oa ls.length oc) ls w' (hv.keep h))
  have HC3 := Lib.hid (fun w' (h : Below W.heap.size W w') => Way_any st (.slice oa ls.length oc) ls a b t w' (hv.keep h))
  have HC4 := Lib.hid (fun w' (h : Below W.heap.size W w') => rArrives_any st (.slice oa ls.length oc) ls a b t w' (hv.keep h) hst)
  have HC5 := Lib.hid (fun w' (h : Below W.heap.size W w') => CheckWay_any st (.slice oa ls.length oc) ls a b t (.slice la l.length lc) l w' (hv.keep h) (hs.keep h))
  have HC6 := Lib.hid (fun w' (h : Below W.heap.size W w') v l' (hi : SpRow w' v l') => rCheckWay_any st (.slice oa ls.length oc) ls a b t v l' w' (hv.keep h) hi hst)
  unfold ntV at HC1 HC3 HC4 HC5 HC6 ⊢
  have HA := Lib.hid (fun W' => net_cells W st (.slice oa ls.length oc) (W := W'))
  have HB0 := Lib.hid ((Below.refl _ W).alloc (Nat.le_refl W.heap.size) (.cells #[.int .i64 st, .slice oa ls.length oc] 24))
  obtain ⟨W1, hW1⟩ : ∃ W1, W.alloc (.cells #[.int .i64 st, .slice oa ls.length oc] 24) = W1 := ⟨_, rfl⟩
  rw [hW1] at HA HB0
  have HW1 := Lib.hid hW1
  clear hv hs hs5 hW1
  cases hf : fewB ls
  · rw [hf] at HC1
    clear hf
    go_enter Try.func5, Try.ntmps5
    go_wp2_with fail
    rw [HW1.out]
    refine (HC1.out _ HB0.out).mono ?_
    rintro e w3 ⟨rfl, hb3⟩
    have HB3 := Lib.hid (HB0.out.trans (hb3.mono HB0.out.size))
    clear hb3
    go_wp2_with fail
    refine (nets_any _).mono ?_
    rintro e wN ⟨rfl, hb⟩
    have HN := Lib.hid (HB3.out.trans (hb.mono HB3.out.size))
    clear hb
    go_wp2_with fail
    go_ret
    exact ⟨rfl, HN.out⟩
  rw [hf] at HC1
  clear hf
  by_cases h50 : 50 < l.length
  · have g50 : (50 : Int) < l.length := by omega
    clear h50
    go_enter Try.func5, Try.ntmps5
    go_wp2_with fail
    rw [HW1.out]
    refine (HC1.out _ HB0.out).mono ?_
    rintro e w3 ⟨rfl, hb3⟩
    have HB3 := Lib.hid (HB0.out.trans (hb3.mono HB0.out.size))
    clear hb3
    go_wp2_with fail
    refine (nets_any _).mono ?_
    rintro e wN ⟨rfl, hb⟩
    have HN := Lib.hid (HB3.out.trans (hb.mono HB3.out.size))
    clear hb
    go_wp2_with fail
    go_ret
    exact ⟨rfl, HN.out⟩
  have g50 : ¬ (50 : Int) < l.length := by omega
  by_cases h20 : 20 < bs.length
  · have g20 : (20 : Int) < bs.length := by omega
    clear h20 h50
    go_enter Try.func5, Try.ntmps5
    go_wp2_with fail
    rw [HW1.out]
    refine (HC1.out _ HB0.out).mono ?_
    rintro e w3 ⟨rfl, hb3⟩
    have HB3 := Lib.hid (HB0.out.trans (hb3.mono HB0.out.size))
    clear hb3
    go_wp2_with fail
    refine (nets_any _).mono ?_
    rintro e wN ⟨rfl, hb⟩
    have HN := Lib.hid (HB3.out.trans (hb.mono HB3.out.size))
    clear hb
    go_wp2_with fail
    go_ret
    exact ⟨rfl, HN.out⟩
  have g20 : ¬ (20 : Int) < bs.length := by omega
  have HC7 := Lib.hid (fun w' (h : Below W.heap.size W w') => CheckBounds_any st (.slice oa ls.length oc) ls a t (.slice ba bs.length bc) bs w' (HV.out.keep h) (HBS.out.keep h) (by omega))
  have HC8 := Lib.hid (fun w' (h : Below W.heap.size W w') => rCheckBounds_any st (.slice oa ls.length oc) ls a t (.slice ba bs.length bc) bs w' (HV.out.keep h) (HBS.out.keep h) (by omega) hst)
  unfold ntV at HC7 HC8
  obtain ⟨B, hB⟩ : ∃ B, boundsE st ls a t bs = B := ⟨_, rfl⟩
  rw [hB] at HC7 HC8
  obtain ⟨wa, wb, hwr⟩ : ∃ wa wb, wayR st ls a b t l = (wa, wb) := ⟨_, _, rfl⟩
  have HWR := Lib.hid hwr
  rw [hwr] at HC5
  simp only at HC5
  clear h50 h20 hB hwr hst
  go_enter Try.func5, Try.ntmps5
  go_wp2_with fail
  rw [HW1.out]
  refine (HC1.out _ HB0.out).mono ?_
  rintro e w3 ⟨rfl, hb3⟩
  have HD3 := Lib.hid hb3
  obtain ⟨n0, n1, _, hw3⟩ := HA.out w3 hb3
  have HB3 := Lib.hid hw3
  clear hb3 hw3
  go_wp2_with fail
  refine (HC3.out _ HB3.out).mono ?_
  rintro e w4 h4
  obtain ⟨v4, q, y, lw, rfl, hb4, hr4, hp4, hq1, hq2⟩ := way_in h4
  have HB4 := Lib.hid (HB3.out.trans (hb4.mono HB3.out.size))
  have HD4 := Lib.hid (HD3.out.trans (hb4.mono HD3.out.size))
  have HR4 := Lib.hid hr4
  have HP4 := Lib.hid hp4
  have HQ1 := Lib.hid hq1
  have HQ2 := Lib.hid hq2
  clear h4 hb4 hr4 hp4 hq1 hq2 n0 n1
  obtain ⟨n0, n1, _, _⟩ := HA.out w4 HD4.out
  go_wp2_with fail
  refine (HC4.out _ HB4.out).mono ?_
  rintro e w5 h5
  obtain ⟨y', q', rfl, hb5, hp5⟩ := arr_in h5
  obtain ⟨rfl, rfl⟩ := HP4.out.unique hp5
  have HB5 := Lib.hid (HB4.out.trans (hb5.mono HB4.out.size))
  have HD5 := Lib.hid (HD4.out.trans (hb5.mono HD4.out.size))
  have HR5 := Lib.hid (HR4.out.keep hb5)
  clear h5 hb5 hp5 n0 n1
  obtain ⟨n0, n1, _, _⟩ := HA.out w5 HD5.out
  by_cases hq : q = 0
  case neg =>
    obtain rfl := HQ1.out hq
    have z1 : (q != 0) = true := by simpa using hq
    have z2 : (q == 0) = false := by simpa using hq
    clear hq
    have HBX := HB5
    have HDX := HD5
    have HC6 := Lib.hid (fun w' h v l' hi => by have := HC6.out w' h v l' hi; exact this)
    go_wp2_with fail
    refine (HC5.out _ HBX.out).mono ?_
    rintro e w7 ⟨rfl, hb7⟩
    have HB7 := Lib.hid (HBX.out.trans (hb7.mono HBX.out.size))
    have HD7 := Lib.hid (HDX.out.trans (hb7.mono HDX.out.size))
    clear hb7 n0 n1
    obtain ⟨n0, n1, _, _⟩ := HA.out w7 HD7.out
    go_wp2_with fail
    refine (HC6.out _ HB7.out _ _ (HL.out.keep HB7.out)).mono ?_
    rintro e w8 ⟨rfl, hb8⟩
    rw [HWR.out]
    have HB8 := Lib.hid (HB7.out.trans (hb8.mono HB7.out.size))
    have HD8 := Lib.hid (HD7.out.trans (hb8.mono HD7.out.size))
    clear hb8 n0 n1
    have K0 : Hid (∀ W', Below w8.heap.size w8 W' → W'.cell? ⟨W.heap.size, 0, none⟩ = some (.int .i64 st) ∧ W'.cell? ⟨W.heap.size, 1, none⟩ = some (.slice oa ls.length oc)) := Lib.hid (fun W' h => by
      obtain ⟨n0, n1, _⟩ := HA.out W' (HD8.out.trans (h.mono HD8.out.size))
      exact ⟨n0, n1⟩)
    have CN : Hid (∀ w', Below w8.heap.size w8 w' → Calls Try.prog 11 #[] w' fun e w'' => e = .returned (.bool true) ∧ Below w8.heap.size w8 w'') := Lib.hid (fun w' h => (nets_any w').mono fun e w'' ⟨he, hh⟩ => ⟨he, h.trans (hh.mono h.size)⟩)
    have CC : Hid (∀ w', Below w8.heap.size w8 w' → Calls Try.prog 27 #[.agg #[.int .i64 st, .slice oa ls.length oc], .int .i64 a, .int .i64 t, .slice ba bs.length bc] w' fun e w'' => e = .returned (.int .i64 B) ∧ Below w8.heap.size w8 w'') := Lib.hid (fun w' h => (HC7.out w' (HB8.out.trans (h.mono HB8.out.size))).mono fun e w'' ⟨he, hh⟩ => ⟨he, h.trans (hh.mono h.size)⟩)
    have CR : Hid (∀ w', Below w8.heap.size w8 w' → Calls Try.prog 28 #[.agg #[.int .i64 st, .slice oa ls.length oc], .int .i64 a, .int .i64 t, .slice ba bs.length bc] w' fun e w'' => e = .returned (.int .i64 B) ∧ Below w8.heap.size w8 w'') := Lib.hid (fun w' h => (HC8.out w' (HB8.out.trans (h.mono HB8.out.size))).mono fun e w'' ⟨he, hh⟩ => ⟨he, h.trans (hh.mono h.size)⟩)
    go_wp2_with fail
    refine wp_region_turn 24 (fun _ w' => Below w8.heap.size w8 w') (by kernel_rfl) (by kernel_rfl) ((Below.refl _ w8).drew) ?_
    simp only [List.take_succ_cons, List.take_zero, List.drop_succ_cons, List.drop_zero]
    iterate 24
      (first
        | (apply turnC_step (by rfl); (intro w' hw'; go_simp; first | exact CN.out w' hw' | exact CC.out w' hw' | exact CR.out w' hw'))
        | (apply turnC_step (by rfl); (intro w' hw'; obtain ⟨q0, q1⟩ := K0.out w' hw'; go_simp; first | exact ⟨hw', rfl⟩ | exact rfl)))
      simp only [Act.put, List.setIfInBounds_toArray, List.set_cons_succ, List.set_cons_zero]
    intro listed w9 _ hw9
    have HB9 := Lib.hid (HB8.out.trans (hw9.mono HB8.out.size))
    clear hw9
    go_wp2_with fail
    go_ret
    exact ⟨rfl, HB9.out⟩
  obtain ⟨a4, p4, rfl, _⟩ := HR4.out.form
  have HW := Lib.hid (HQ2.out hq)
  subst hq
  go_wp2_with fail
  refine (HC6.out _ HB5.out _ _ HR5.out).mono ?_
  rintro e w6 ⟨rfl, hb6⟩
  rw [HW.out]
  have HBX := Lib.hid (HB5.out.trans (hb6.mono HB5.out.size))
  have HDX := Lib.hid (HD5.out.trans (hb6.mono HD5.out.size))
  clear hb6 n0 n1
  obtain ⟨n0, n1, _, _⟩ := HA.out w6 HDX.out
  go_wp2_with fail
  refine (HC5.out _ HBX.out).mono ?_
  rintro e w7 ⟨rfl, hb7⟩
  have HB7 := Lib.hid (HBX.out.trans (hb7.mono HBX.out.size))
  have HD7 := Lib.hid (HDX.out.trans (hb7.mono HDX.out.size))
  clear hb7 n0 n1
  obtain ⟨n0, n1, _, _⟩ := HA.out w7 HD7.out
  go_wp2_with fail
  refine (HC6.out _ HB7.out _ _ (HL.out.keep HB7.out)).mono ?_
  rintro e w8 ⟨rfl, hb8⟩
  rw [HWR.out]
  have HB8 := Lib.hid (HB7.out.trans (hb8.mono HB7.out.size))
  have HD8 := Lib.hid (HD7.out.trans (hb8.mono HD7.out.size))
  clear hb8 n0 n1
  have K0 : Hid (∀ W', Below w8.heap.size w8 W' → W'.cell? ⟨W.heap.size, 0, none⟩ = some (.int .i64 st) ∧ W'.cell? ⟨W.heap.size, 1, none⟩ = some (.slice oa ls.length oc)) := Lib.hid (fun W' h => by
    obtain ⟨n0, n1, _⟩ := HA.out W' (HD8.out.trans (h.mono HD8.out.size))
    exact ⟨n0, n1⟩)
  have CN : Hid (∀ w', Below w8.heap.size w8 w' → Calls Try.prog 11 #[] w' fun e w'' => e = .returned (.bool true) ∧ Below w8.heap.size w8 w'') := Lib.hid (fun w' h => (nets_any w').mono fun e w'' ⟨he, hh⟩ => ⟨he, h.trans (hh.mono h.size)⟩)
  have CC : Hid (∀ w', Below w8.heap.size w8 w' → Calls Try.prog 27 #[.agg #[.int .i64 st, .slice oa ls.length oc], .int .i64 a, .int .i64 t, .slice ba bs.length bc] w' fun e w'' => e = .returned (.int .i64 B) ∧ Below w8.heap.size w8 w'') := Lib.hid (fun w' h => (HC7.out w' (HB8.out.trans (h.mono HB8.out.size))).mono fun e w'' ⟨he, hh⟩ => ⟨he, h.trans (hh.mono h.size)⟩)
  have CR : Hid (∀ w', Below w8.heap.size w8 w' → Calls Try.prog 28 #[.agg #[.int .i64 st, .slice oa ls.length oc], .int .i64 a, .int .i64 t, .slice ba bs.length bc] w' fun e w'' => e = .returned (.int .i64 B) ∧ Below w8.heap.size w8 w'') := Lib.hid (fun w' h => (HC8.out w' (HB8.out.trans (h.mono HB8.out.size))).mono fun e w'' ⟨he, hh⟩ => ⟨he, h.trans (hh.mono h.size)⟩)
  go_wp2_with fail
  refine wp_region_turn 24 (fun _ w' => Below w8.heap.size w8 w') (by kernel_rfl) (by kernel_rfl) ((Below.refl _ w8).drew) ?_
  simp only [List.take_succ_cons, List.take_zero, List.drop_succ_cons, List.drop_zero]
  iterate 24
    (first
      | (apply turnC_step (by rfl); (intro w' hw'; go_simp; first | exact CN.out w' hw' | exact CC.out w' hw' | exact CR.out w' hw'))
      | (apply turnC_step (by rfl); (intro w' hw'; obtain ⟨q0, q1⟩ := K0.out w' hw'; go_simp; first | exact ⟨hw', rfl⟩ | exact rfl)))
    simp only [Act.put, List.setIfInBounds_toArray, List.set_cons_succ, List.set_cons_zero]
  intro listed w9 _ hw9
  have HB9 := Lib.hid (HB8.out.trans (hw9.mono HB8.out.size))
  clear hw9
  go_wp2_with fail
  go_ret
  exact ⟨rfl, HB9.out⟩
end Go.Proofs.Yteghcdabaigcbaa
