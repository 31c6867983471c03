/- Package firetowerref05: Lies. -/
import Derived.Test.YtpaihnjgpookjaaCD4
set_option linter.unusedVariables false
set_option linter.unusedSimpArgs false
namespace Go.Proofs.Ytpaihnjgpookjaa
open Go Go.RowKit

theorem ls_eq {f t a b c d : Int} (hv : vwB f t = true) (hb : brB a b c d = true) : lsB f t a b c d = hsB f t (twN (c - a) (d - b)) (twD (c - a) (d - b)) := by
  obtain ⟨h1, h2, h3⟩ := brB_ok hb
  obtain ⟨t1, t2, t3, t4, _⟩ := tw_ok (x := c - a) (y := d - b) (by omega) (by omega) h3
  obtain ⟨v1, v2, v3, v4⟩ := vw_ok hv
  unfold lsB hsB brDn brUp
  rw [hb, hv]
  simp only [if_true, Bool.true_and]
  rw [Bool.eq_iff_iff, Bool.and_eq_true, decide_eq_true_eq, decide_eq_true_eq, decide_eq_true_eq]
  exact (hs_two v1 v4 t1 ⟨t3, t4⟩).symm
set_option maxRecDepth 100000 in
set_option maxHeartbeats 4000000 in
theorem pLies_any (f t a b c d : Int) (w : World) : Calls Try.prog 16 #[.agg #[.int .i64 f, .int .i64 t], .agg #[.int .i64 a, .int .i64 b], .agg #[.int .i64 c, .int .i64 d]] w fun e w' => e = .returned (.bool (lsB f t a b c d)) ∧ Below w.heap.size w w' := by
  have H1 := Lib.hid (fun w' => pRight_any f t w')
  have H2 := Lib.hid (fun w' => pbearing_any a b c d w')
  have H3 : Hid (∀ w', vwB f t = true → brB a b c d = true → Calls Try.prog 35 #[.agg #[.int .i64 f, .int .i64 t], .agg #[.int .i64 (twN (c - a) (d - b)), .int .i64 (twD (c - a) (d - b))]] w' fun e w'' => e = .returned (.bool (lsB f t a b c d)) ∧ Below w'.heap.size w' w'') := Lib.hid (fun w' hv hb => by
    obtain ⟨h1, h2, h3⟩ := brB_ok hb
    obtain ⟨t1, t2, t3, t4, _⟩ := tw_ok (x := c - a) (y := d - b) (by omega) (by omega) h3
    obtain ⟨v1, v2, v3, v4⟩ := vw_ok hv
    rw [ls_eq hv hb]
    exact pHas_any f t _ _ w' v1 v4 ⟨t1, t2⟩ ⟨t3, by omega⟩)
  have HL1 : Hid (vwB f t = false → lsB f t a b c d = false) := Lib.hid (fun h => by unfold lsB; rw [h]; simp)
  have HL2 : Hid (brB a b c d = false → lsB f t a b c d = false) := Lib.hid (fun h => by unfold lsB; rw [h]; simp)
  obtain ⟨L, hL⟩ : ∃ z, lsB f t a b c d = z := ⟨_, rfl⟩
  obtain ⟨r, hr⟩ : ∃ z, vwB f t = z := ⟨_, rfl⟩
  obtain ⟨ok, hok⟩ : ∃ z, brB a b c d = z := ⟨_, rfl⟩
  obtain ⟨N, hN⟩ : ∃ z, twN (c - a) (d - b) = z := ⟨_, rfl⟩
  obtain ⟨D, hD⟩ : ∃ z, twD (c - a) (d - b) = z := ⟨_, rfl⟩
  rw [hr] at H1 H3 HL1
  rw [hok] at H2 H3 HL2
  rw [hN, hD] at H2 H3
  rw [hL] at H3 HL1 HL2 ⊢
  clear hL hr hok hN hD
  have HA := Lib.hid (fun W' => cells3 w #[.int .i64 f, .int .i64 t] #[.int .i64 a, .int .i64 b] #[.int .i64 c, .int .i64 d] 23 25 25 (W := W'))
  go_enter Try.func16, Try.ntmps16
  go_wp2_with fail
  refine (H1.out _).mono ?_
  rintro e w1 ⟨rfl, hb1⟩
  have HB1 := Lib.hid hb1
  obtain ⟨x1, x2, x3, _, xb⟩ := HA.out w1 hb1
  have q0 := cellH x1 0
  have q1 := cellH x1 1
  have r0 := cellH x2 0
  have r1 := cellH x2 1
  have s0 := cellH x3 0
  have s1 := cellH x3 1
  simp only [List.getElem?_toArray, List.getElem?_cons_zero, List.getElem?_cons_succ] at q0 q1 r0 r1 s0 s1
  clear x1 x2 x3 xb hb1
  go_wp2_with fail
  refine (H2.out _).mono ?_
  rintro e w2 ⟨rfl, hb2⟩
  obtain ⟨n0, hn0⟩ : ∃ z, (if ok = true then N else 0) = z := ⟨_, rfl⟩
  obtain ⟨d0, hd0⟩ : ∃ z, (if ok = true then D else 0) = z := ⟨_, rfl⟩
  rw [hn0, hd0]
  have HND := Lib.hid (And.intro hn0 hd0)
  have hB2 := (hb2.mono HB1.out.size)
  have hc2 := cells1 w2 #[.int .i64 n0, .int .i64 d0] 71 (Below.refl _ _)
  have hB3 := HB1.out.trans (hB2.trans (hc2.2.2.mono (Nat.le_trans HB1.out.size hb2.size)))
  obtain ⟨x1, x2, x3, _, xb⟩ := HA.out _ hB3
  have HXB := Lib.hid xb
  clear q0 q1 r0 r1 s0 s1 hb2 hB2 hn0 hd0
  have q0 := cellH x1 0
  have q1 := cellH x1 1
  have y0 := cellH hc2.1 0
  have y1 := cellH hc2.1 1
  simp only [List.getElem?_toArray, List.getElem?_cons_zero, List.getElem?_cons_succ] at q0 q1 y0 y1
  clear x1 x2 x3 xb hB3 hc2
  cases r
  · have HN := Lib.hid (HL1.out rfl)
    go_wp2_with fail
    go_ret
    exact ⟨by rw [HN.out]; rfl, HXB.out⟩
  cases ok
  · have HN := Lib.hid (HL2.out rfl)
    go_wp2_with fail
    go_ret
    exact ⟨by rw [HN.out]; rfl, HXB.out⟩
  obtain ⟨rfl, rfl⟩ : N = n0 ∧ D = d0 := by have := HND.out; simpa using this
  have H33 := Lib.hid (fun w' => H3.out w' rfl rfl)
  go_wp2_with fail
  refine (H33.out _).mono ?_
  rintro e w4 ⟨rfl, hb4⟩
  have HB4 := Lib.hid (HXB.out.trans (hb4.mono HXB.out.size))
  clear hb4 q0 q1 y0 y1
  go_wp2_with fail
  go_ret
  exact ⟨rfl, HB4.out⟩
end Go.Proofs.Ytpaihnjgpookjaa
