/- Merged: CE7, CE8. -/
import Derived.Test.YtebdboacmeafaaaGreatCAA
import Derived.Test.YtebdboacmeafaaaGreatCB1
import Derived.Test.YtebdboacmeafaaaGreatCB2
/- Package firetowerref05: span, find, circled, checked. -/
set_option linter.unusedVariables false
set_option linter.unusedSimpArgs false
namespace Go.Proofs.YtebdboacmeafaaaGreat
open Go Go.RowKit

theorem pspan_any (lo hi a b : Int) (w : World) : Calls Tryz.prog 131 #[.agg #[.int .i64 lo, .int .i64 hi], .int .i64 a, .int .i64 b] w fun e w' => e = .returned (.bool (decide (a ≤ lo) && decide (lo ≤ hi) && decide (hi ≤ b))) ∧ Below w.heap.size w w' := by
  have HB := Lib.hid ((Below.refl w.heap.size w).alloc (Nat.le_refl _) (.cells #[.int .i64 lo, .int .i64 hi] 36))
  cases g1 : decide (a ≤ lo)
  · have h1 : ¬ a ≤ lo := of_decide_eq_false g1
    go_enter Tryz.func131, Tryz.ntmps131
    go_wp2_with fail
    go_ret
    exact ⟨rfl, HB.out⟩
  have h1 : a ≤ lo := of_decide_eq_true g1
  cases g2 : decide (lo ≤ hi)
  · have h2 : ¬ lo ≤ hi := of_decide_eq_false g2
    go_enter Tryz.func131, Tryz.ntmps131
    go_wp2_with fail
    go_ret
    exact ⟨rfl, HB.out⟩
  have h2 : lo ≤ hi := of_decide_eq_true g2
  go_enter Tryz.func131, Tryz.ntmps131
  go_wp2_with fail
  go_ret
  exact ⟨by simp, HB.out⟩
set_option maxRecDepth 100000 in
set_option maxHeartbeats 8000000 in
theorem pfind_any (v v2 : Value) (l : List Ci) (id : Int) (w : World) (hv : CiRow w v l) (hl : l.length ≤ 1000000) :
    Calls Tryz.prog 65 #[.agg #[v, v2], .int .i64 id] w fun e w' => e = .returned (.tuple #[((ciF l id).getD .nil).val, .bool (ciF l id).isSome]) ∧ Below w.heap.size w w' := by
  obtain ⟨a, cap, rfl, hc⟩ := hv.form
  have HC := Lib.hid hc
  clear hc hv
  have HHIT := Lib.hid (fun k hk => ciF_hit (l := l) (id := id) (k := k) hk)
  have HMISS := Lib.hid (ciF_miss (l := l) (id := id))
  obtain ⟨R, hR⟩ : ∃ R, ciF l id = R := ⟨_, rfl⟩
  rw [hR] at HHIT HMISS ⊢
  clear hR
  obtain ⟨x0, x1, xlt, xb⟩ := two_cells w #[.slice a l.length cap, v2] #[.int .i64 0, .int .i64 0, .int .i64 0, .int .i64 0, .int .i64 0, .int .i64 0, .int .i64 0, .int .i64 0] 25 93 (Below.refl _ _)
  have HNc : Hid (((w.alloc (.cells #[.slice a l.length cap, v2] 25)).alloc (.cells #[.int .i64 0, .int .i64 0, .int .i64 0, .int .i64 0, .int .i64 0, .int .i64 0, .int .i64 0, .int .i64 0] 93)).heap[w.heap.size]? = some (.cells #[.slice a l.length cap, v2] 25 (0, 0))) := Lib.hid x0
  have HNr : Hid (((w.alloc (.cells #[.slice a l.length cap, v2] 25)).alloc (.cells #[.int .i64 0, .int .i64 0, .int .i64 0, .int .i64 0, .int .i64 0, .int .i64 0, .int .i64 0, .int .i64 0] 93)).heap[w.heap.size + 1]? = some (.cells #[.int .i64 0, .int .i64 0, .int .i64 0, .int .i64 0, .int .i64 0, .int .i64 0, .int .i64 0, .int .i64 0] 93 (0, 0))) := Lib.hid x1
  have HB : Hid (Below w.heap.size w ((w.alloc (.cells #[.slice a l.length cap, v2] 25)).alloc (.cells #[.int .i64 0, .int .i64 0, .int .i64 0, .int .i64 0, .int .i64 0, .int .i64 0, .int .i64 0, .int .i64 0] 93))) := Lib.hid xb
  obtain ⟨Z, hZ⟩ : ∃ Z, ((w.alloc (.cells #[.slice a l.length cap, v2] 25)).alloc (.cells #[.int .i64 0, .int .i64 0, .int .i64 0, .int .i64 0, .int .i64 0, .int .i64 0, .int .i64 0, .int .i64 0] 93)) = Z := ⟨_, rfl⟩
  rw [hZ] at HB HNc HNr
  have HZ := Lib.hid hZ
  clear hZ xlt xb x0 x1
  go_enter Tryz.func65, Tryz.ntmps65
  go_wp2_with fail
  rw [HZ.out]
  go_loopw [6] (fun i wr => ∃ (k : Nat), k ≤ l.length ∧ i = .int .i64 k ∧ Hid (∀ j, j < k → ((l.getD j .nil).id == id) = false) ∧ Hid (Below w.heap.size w wr) ∧ Hid (wr.heap[w.heap.size]? = some (.cells #[.slice a l.length cap, v2] 25 (0, 0))) ∧ Hid (wr.heap[w.heap.size + 1]? = some (.cells #[.int .i64 0, .int .i64 0, .int .i64 0, .int .i64 0, .int .i64 0, .int .i64 0, .int .i64 0, .int .i64 0] 93 (0, 0)))) (fun i _ => l.length - (intOf i).toNat)
  case atStart => exact ⟨0, Nat.zero_le _, rfl, Lib.hid (fun j hj => by omega), HB, HNc, HNr⟩
  case round =>
    clear HB HNc HNr
    obtain ⟨k, hk, rfl, hN, HB, HNc, HNr⟩ := hrel
    have zc0 := cellH HNc.out 0
    have zc1 := cellH HNc.out 1
    simp only [List.getElem?_toArray, List.getElem?_cons_zero, List.getElem?_cons_succ] at zc0 zc1
    by_cases hkl : k < l.length
    · obtain ⟨b, off, rfl, hb, hat⟩ := HC.out k hkl
      obtain ⟨e0, e1, e2, e3, e4, e5, e6, e7⟩ := hat.keep HB.out hb
      have hki : (k : Int) < l.length := by omega
      have hk0 : (0 : Int) ≤ k := by omega
      have HH := Lib.hid (HHIT.out k hkl hN.out)
      have HNX : Hid (((l.getD k .nil).id == id) = false → ∀ j, j < k + 1 → ((l.getD j .nil).id == id) = false) := Lib.hid (fun h j hj => by
        by_cases e : j = k
        · subst e; exact h
        · exact hN.out j (by omega))
      obtain ⟨X, hX⟩ : ∃ X, l.getD k .nil = X := ⟨_, rfl⟩
      rw [hX] at HH HNX e0 e1 e2 e3 e4 e5 e6 e7
      obtain ⟨a0, a1, a2, a3, a4, a5, a6, a7⟩ := X
      simp only at e0 e1 e2 e3 e4 e5 e6 e7 HH HNX
      have HKL := Lib.hid hkl
      clear hat hb hX
      cases hE : (a0 == id)
      · have HN2 := Lib.hid (HNX.out hE)
        go_wp2_with fail
        go_roundw
        case rel => exact ⟨k + 1, HKL.out, by go_num, HN2, HB, HNc, HNr⟩
        case measure => have := HKL.out; simp [intOf]; omega
      · have HR := Lib.hid (HH.out hE)
        have zr0_2 := cellH HNr.out 0
        have zr1_2 := cellH HNr.out 1
        have zr2_2 := cellH HNr.out 2
        have zr3_2 := cellH HNr.out 3
        have zr4_2 := cellH HNr.out 4
        have zr5_2 := cellH HNr.out 5
        have zr6_2 := cellH HNr.out 6
        have zr7_2 := cellH HNr.out 7
        simp only [List.getElem?_toArray, List.getElem?_cons_zero, List.getElem?_cons_succ] at zr0_2 zr1_2 zr2_2 zr3_2 zr4_2 zr5_2 zr6_2 zr7_2
        have zfr_2 := freeH HNr.out
        go_wp2_with fail
        obtain ⟨z1, z2⟩ := set8 HNr.out HB.out (by omega) (.int .i64 a0) (.int .i64 a1) (.int .i64 a2) (.int .i64 a3) (.int .i64 a4) (.int .i64 a5) (.int .i64 a6) (.int .i64 a7)
        refine bodyPost_ret (res_ct Tryz.results65 _ _ (w.heap.size + 1) 93 #[.int .i64 a0, .int .i64 a1, .int .i64 a2, .int .i64 a3, .int .i64 a4, .int .i64 a5, .int .i64 a6, .int .i64 a7] (0, 0) _ rfl z1 Tryz.underlying93 rfl info_ci8) rfl ?_
        exact ⟨by rw [HR.out]; rfl, z2⟩
    · obtain rfl : k = l.length := by omega
      have HR := Lib.hid (HMISS.out hN.out)
      have zr0_3 := cellH HNr.out 0
      have zr1_3 := cellH HNr.out 1
      have zr2_3 := cellH HNr.out 2
      have zr3_3 := cellH HNr.out 3
      have zr4_3 := cellH HNr.out 4
      have zr5_3 := cellH HNr.out 5
      have zr6_3 := cellH HNr.out 6
      have zr7_3 := cellH HNr.out 7
      simp only [List.getElem?_toArray, List.getElem?_cons_zero, List.getElem?_cons_succ] at zr0_3 zr1_3 zr2_3 zr3_3 zr4_3 zr5_3 zr6_3 zr7_3
      have zfr_3 := freeH HNr.out
      go_wp2_with fail
      obtain ⟨z1, z2⟩ := set8 HNr.out HB.out (by omega) (.int .i64 0) (.int .i64 0) (.int .i64 0) (.int .i64 0) (.int .i64 0) (.int .i64 0) (.int .i64 0) (.int .i64 0)
      refine bodyPost_ret (res_ct Tryz.results65 _ _ (w.heap.size + 1) 93 #[.int .i64 0, .int .i64 0, .int .i64 0, .int .i64 0, .int .i64 0, .int .i64 0, .int .i64 0, .int .i64 0] (0, 0) _ rfl z1 Tryz.underlying93 rfl info_ci8) rfl ?_
      exact ⟨by rw [HR.out]; rfl, z2⟩
set_option maxRecDepth 100000 in
set_option maxHeartbeats 8000000 in
theorem circled_any (z : Ci) (w : World) : Calls Tryz.prog 103 #[z.val] w fun e w' => e = .returned (.int .i64 (if z.ok = true then 0 else 1)) ∧ Below w.heap.size w w' := by
  obtain ⟨id, x, y, f, t, lo, hi, dr⟩ := z
  have HO : Hid (Ci.ok ⟨id, x, y, f, t, lo, hi, dr⟩ = (ciB id 1 1099511627776 && omB x y && (decide (0 ≤ f) && decide (f ≤ t) && decide (t ≤ 1048576)) && (decide (-300 ≤ lo) && decide (lo ≤ hi) && decide (hi ≤ 300)) && ciB dr 0 60)) := Lib.hid (by unfold Ci.ok; simp only [Bool.and_assoc])
  have H1 := Lib.hid (fun w' => pwithin_any id 1 1099511627776 w')
  have H2 := Lib.hid (fun w' => pOn_any x y w')
  have H3 := Lib.hid (fun w' => pspan_any f t 0 1048576 w')
  have H4 := Lib.hid (fun w' => pspan_any lo hi (-300) 300 w')
  have H5 := Lib.hid (fun w' => pwithin_any dr 0 60 w')
  obtain ⟨B, hB⟩ : ∃ z, Ci.ok ⟨id, x, y, f, t, lo, hi, dr⟩ = z := ⟨_, rfl⟩
  obtain ⟨b1, hb1⟩ : ∃ z, ciB id 1 1099511627776 = z := ⟨_, rfl⟩
  obtain ⟨b2, hb2⟩ : ∃ z, omB x y = z := ⟨_, rfl⟩
  obtain ⟨b3, hb3⟩ : ∃ z, (decide (0 ≤ f) && decide (f ≤ t) && decide (t ≤ 1048576)) = z := ⟨_, rfl⟩
  obtain ⟨b4, hb4⟩ : ∃ z, (decide (-300 ≤ lo) && decide (lo ≤ hi) && decide (hi ≤ 300)) = z := ⟨_, rfl⟩
  obtain ⟨b5, hb5⟩ : ∃ z, ciB dr 0 60 = z := ⟨_, rfl⟩
  rw [hB, hb1, hb2, hb3, hb4, hb5] at HO
  rw [hB]
  obtain ⟨E, hE⟩ : ∃ E, (if B = true then (0 : Int) else 1) = E := ⟨_, rfl⟩
  rw [hE]
  have HEE : Hid (E = bif B then (0 : Int) else 1) := Lib.hid (by rw [← hE]; cases B <;> rfl)
  clear hE
  rw [hb1] at H1
  rw [hb2] at H2
  rw [hb3] at H3
  rw [hb4] at H4
  rw [hb5] at H5
  clear hB hb1 hb2 hb3 hb4 hb5
  obtain ⟨x0, xlt, xb⟩ := cells1 w #[.int .i64 id, .int .i64 x, .int .i64 y, .int .i64 f, .int .i64 t, .int .i64 lo, .int .i64 hi, .int .i64 dr] 93 (Below.refl _ _)
  have HNc : Hid ((w.alloc (.cells #[.int .i64 id, .int .i64 x, .int .i64 y, .int .i64 f, .int .i64 t, .int .i64 lo, .int .i64 hi, .int .i64 dr] 93)).heap[w.heap.size]? = some (.cells #[.int .i64 id, .int .i64 x, .int .i64 y, .int .i64 f, .int .i64 t, .int .i64 lo, .int .i64 hi, .int .i64 dr] 93 (0, 0))) := Lib.hid x0
  have HB : Hid (Below w.heap.size w (w.alloc (.cells #[.int .i64 id, .int .i64 x, .int .i64 y, .int .i64 f, .int .i64 t, .int .i64 lo, .int .i64 hi, .int .i64 dr] 93))) := Lib.hid xb
  obtain ⟨Z, hZ⟩ : ∃ Z, (w.alloc (.cells #[.int .i64 id, .int .i64 x, .int .i64 y, .int .i64 f, .int .i64 t, .int .i64 lo, .int .i64 hi, .int .i64 dr] 93)) = Z := ⟨_, rfl⟩
  rw [hZ] at HB HNc
  have HZ := Lib.hid hZ
  clear hZ xlt xb x0
  go_enter Tryz.func103, Tryz.ntmps103
  have zc0 := cellH HNc.out 0
  have zc1 := cellH HNc.out 1
  have zc2 := cellH HNc.out 2
  have zc3 := cellH HNc.out 3
  have zc4 := cellH HNc.out 4
  have zc5 := cellH HNc.out 5
  have zc6 := cellH HNc.out 6
  have zc7 := cellH HNc.out 7
  simp only [List.getElem?_toArray, List.getElem?_cons_zero, List.getElem?_cons_succ] at zc0 zc1 zc2 zc3 zc4 zc5 zc6 zc7
  go_wp2_with fail
  rw [HZ.out]
  refine (H1.out _).mono ?_
  rintro e w9 ⟨rfl, rfl⟩
  go_wp2_with fail
  refine (H2.out _).mono ?_
  rintro e w1 ⟨rfl, hb⟩
  clear zc0 zc1 zc2 zc3 zc4 zc5 zc6 zc7
  replace HB := Lib.hid (HB.out.trans (hb.mono HB.out.size))
  replace HNc := Lib.hid ((hb.block _ (Array.getElem?_eq_some_iff.1 HNc.out).1).trans HNc.out)
  clear hb
  have zc0 := cellH HNc.out 0
  have zc1 := cellH HNc.out 1
  have zc2 := cellH HNc.out 2
  have zc3 := cellH HNc.out 3
  have zc4 := cellH HNc.out 4
  have zc5 := cellH HNc.out 5
  have zc6 := cellH HNc.out 6
  have zc7 := cellH HNc.out 7
  simp only [List.getElem?_toArray, List.getElem?_cons_zero, List.getElem?_cons_succ] at zc0 zc1 zc2 zc3 zc4 zc5 zc6 zc7
  go_wp2_with fail
  refine (H3.out _).mono ?_
  rintro e w2 ⟨rfl, hb⟩
  clear zc0 zc1 zc2 zc3 zc4 zc5 zc6 zc7
  replace HB := Lib.hid (HB.out.trans (hb.mono HB.out.size))
  replace HNc := Lib.hid ((hb.block _ (Array.getElem?_eq_some_iff.1 HNc.out).1).trans HNc.out)
  clear hb
  have zc0 := cellH HNc.out 0
  have zc1 := cellH HNc.out 1
  have zc2 := cellH HNc.out 2
  have zc3 := cellH HNc.out 3
  have zc4 := cellH HNc.out 4
  have zc5 := cellH HNc.out 5
  have zc6 := cellH HNc.out 6
  have zc7 := cellH HNc.out 7
  simp only [List.getElem?_toArray, List.getElem?_cons_zero, List.getElem?_cons_succ] at zc0 zc1 zc2 zc3 zc4 zc5 zc6 zc7
  go_wp2_with fail
  refine (H4.out _).mono ?_
  rintro e w3 ⟨rfl, hb⟩
  clear zc0 zc1 zc2 zc3 zc4 zc5 zc6 zc7
  replace HB := Lib.hid (HB.out.trans (hb.mono HB.out.size))
  replace HNc := Lib.hid ((hb.block _ (Array.getElem?_eq_some_iff.1 HNc.out).1).trans HNc.out)
  clear hb
  have zc0 := cellH HNc.out 0
  have zc1 := cellH HNc.out 1
  have zc2 := cellH HNc.out 2
  have zc3 := cellH HNc.out 3
  have zc4 := cellH HNc.out 4
  have zc5 := cellH HNc.out 5
  have zc6 := cellH HNc.out 6
  have zc7 := cellH HNc.out 7
  simp only [List.getElem?_toArray, List.getElem?_cons_zero, List.getElem?_cons_succ] at zc0 zc1 zc2 zc3 zc4 zc5 zc6 zc7
  go_wp2_with fail
  refine (H5.out _).mono ?_
  rintro e w4 ⟨rfl, rfl⟩
  clear zc0 zc1 zc2 zc3 zc4 zc5 zc6 zc7
  cases b1
  · have HN : Hid (E = 1) := Lib.hid (by rw [HEE.out, HO.out]; simp)
    go_wp2_with fail
    go_ret
    exact ⟨by rw [HN.out]; rfl, HB.out⟩
  cases b2
  · have HN : Hid (E = 1) := Lib.hid (by rw [HEE.out, HO.out]; simp)
    go_wp2_with fail
    go_ret
    exact ⟨by rw [HN.out]; rfl, HB.out⟩
  cases b3
  · have HN : Hid (E = 1) := Lib.hid (by rw [HEE.out, HO.out]; simp)
    go_wp2_with fail
    go_ret
    exact ⟨by rw [HN.out]; rfl, HB.out⟩
  cases b4
  · have HN : Hid (E = 1) := Lib.hid (by rw [HEE.out, HO.out]; simp)
    go_wp2_with fail
    go_ret
    exact ⟨by rw [HN.out]; rfl, HB.out⟩
  cases b5
  · have HN : Hid (E = 1) := Lib.hid (by rw [HEE.out, HO.out]; simp)
    go_wp2_with fail
    go_ret
    exact ⟨by rw [HN.out]; rfl, HB.out⟩
  have HN : Hid (E = 0) := Lib.hid (by rw [HEE.out, HO.out]; rfl)
  go_wp2_with fail
  go_ret
  exact ⟨by rw [HN.out]; rfl, HB.out⟩
set_option maxRecDepth 100000 in
set_option maxHeartbeats 8000000 in
theorem checked_any (v v2 : Value) (l : List Ci) (k : Ck) (w : World) (hv : CiRow w v l) (hl : l.length ≤ 1000000) :
    Calls Tryz.prog 104 #[.agg #[v, v2], k.val] w fun e w' => e = .returned (.int .i64 (ceK l k)) ∧ Below w.heap.size w w' := by
  obtain ⟨id, c, t, x, y, s, sl⟩ := k
  have HCE : Hid (ceK l ⟨id, c, t, x, y, s, sl⟩ = if ciB id 1 1099511627776 && omB x y && ciB s 0 3599 && ciB sl 1 100 then
    (match ciF l c with
    | none => 5
    | some z => if (x == z.x && y == z.y) || !ciB t z.f z.t then 1 else 0)
    else 1) := Lib.hid rfl
  have H1 := Lib.hid (fun w' => pwithin_any id 1 1099511627776 w')
  have H2 := Lib.hid (fun w' => pOn_any x y w')
  have H3 := Lib.hid (fun w' => pwithin_any s 0 3599 w')
  have H4 := Lib.hid (fun w' => pwithin_any sl 1 100 w')
  have H5 := Lib.hid (fun w' (h : Below w.heap.size w w') => pfind_any v v2 l c w' (hv.keep h) hl)
  obtain ⟨a, cap, rfl, _⟩ := hv.form
  have HCI := Lib.hid (fun a b => @ci_iff t a b)
  obtain ⟨E, hE⟩ : ∃ z, ceK l ⟨id, c, t, x, y, s, sl⟩ = z := ⟨_, rfl⟩
  obtain ⟨b1, hb1⟩ : ∃ z, ciB id 1 1099511627776 = z := ⟨_, rfl⟩
  obtain ⟨b2, hb2⟩ : ∃ z, omB x y = z := ⟨_, rfl⟩
  obtain ⟨b3, hb3⟩ : ∃ z, ciB s 0 3599 = z := ⟨_, rfl⟩
  obtain ⟨b4, hb4⟩ : ∃ z, ciB sl 1 100 = z := ⟨_, rfl⟩
  obtain ⟨F, hF⟩ : ∃ z, ciF l c = z := ⟨_, rfl⟩
  rw [hE, hb1, hb2, hb3, hb4, hF] at HCE
  rw [hE]
  rw [hb1] at H1
  rw [hb2] at H2
  rw [hb3] at H3
  rw [hb4] at H4
  rw [hF] at H5
  clear hE hb1 hb2 hb3 hb4 hF hv hl
  obtain ⟨x0, x1, xlt, xb⟩ := two_cells w #[.slice a l.length cap, v2] #[.int .i64 id, .int .i64 c, .int .i64 t, .int .i64 x, .int .i64 y, .int .i64 s, .int .i64 sl] 25 67 (Below.refl _ _)
  have HNc : Hid (((w.alloc (.cells #[.slice a l.length cap, v2] 25)).alloc (.cells #[.int .i64 id, .int .i64 c, .int .i64 t, .int .i64 x, .int .i64 y, .int .i64 s, .int .i64 sl] 67)).heap[w.heap.size]? = some (.cells #[.slice a l.length cap, v2] 25 (0, 0))) := Lib.hid x0
  have HNk : Hid (((w.alloc (.cells #[.slice a l.length cap, v2] 25)).alloc (.cells #[.int .i64 id, .int .i64 c, .int .i64 t, .int .i64 x, .int .i64 y, .int .i64 s, .int .i64 sl] 67)).heap[w.heap.size + 1]? = some (.cells #[.int .i64 id, .int .i64 c, .int .i64 t, .int .i64 x, .int .i64 y, .int .i64 s, .int .i64 sl] 67 (0, 0))) := Lib.hid x1
  have HB : Hid (Below w.heap.size w ((w.alloc (.cells #[.slice a l.length cap, v2] 25)).alloc (.cells #[.int .i64 id, .int .i64 c, .int .i64 t, .int .i64 x, .int .i64 y, .int .i64 s, .int .i64 sl] 67))) := Lib.hid xb
  obtain ⟨Z, hZ⟩ : ∃ Z, ((w.alloc (.cells #[.slice a l.length cap, v2] 25)).alloc (.cells #[.int .i64 id, .int .i64 c, .int .i64 t, .int .i64 x, .int .i64 y, .int .i64 s, .int .i64 sl] 67)) = Z := ⟨_, rfl⟩
  rw [hZ] at HB HNc HNk
  have HZ := Lib.hid hZ
  clear hZ xlt xb x0 x1
  go_enter Tryz.func104, Tryz.ntmps104
  have zk0 := cellH HNk.out 0
  have zk1 := cellH HNk.out 1
  have zk2 := cellH HNk.out 2
  have zk3 := cellH HNk.out 3
  have zk4 := cellH HNk.out 4
  have zk5 := cellH HNk.out 5
  have zk6 := cellH HNk.out 6
  simp only [List.getElem?_toArray, List.getElem?_cons_zero, List.getElem?_cons_succ] at zk0 zk1 zk2 zk3 zk4 zk5 zk6
  go_wp2_with fail
  rw [HZ.out]
  refine (H1.out _).mono ?_
  rintro e w9 ⟨rfl, rfl⟩
  go_wp2_with fail
  refine (H2.out _).mono ?_
  rintro e w1 ⟨rfl, hb⟩
  clear zk0 zk1 zk2 zk3 zk4 zk5 zk6
  replace HB := Lib.hid (HB.out.trans (hb.mono HB.out.size))
  replace HNc := Lib.hid ((hb.block _ (Array.getElem?_eq_some_iff.1 HNc.out).1).trans HNc.out)
  replace HNk := Lib.hid ((hb.block _ (Array.getElem?_eq_some_iff.1 HNk.out).1).trans HNk.out)
  clear hb
  have zk0 := cellH HNk.out 0
  have zk1 := cellH HNk.out 1
  have zk2 := cellH HNk.out 2
  have zk3 := cellH HNk.out 3
  have zk4 := cellH HNk.out 4
  have zk5 := cellH HNk.out 5
  have zk6 := cellH HNk.out 6
  simp only [List.getElem?_toArray, List.getElem?_cons_zero, List.getElem?_cons_succ] at zk0 zk1 zk2 zk3 zk4 zk5 zk6
  go_wp2_with fail
  refine (H3.out _).mono ?_
  rintro e w2 ⟨rfl, rfl⟩
  go_wp2_with fail
  refine (H4.out _).mono ?_
  rintro e w3 ⟨rfl, rfl⟩
  clear zk0 zk1 zk2 zk3 zk4 zk5 zk6
  cases b1
  · have HN : Hid (E = 1) := Lib.hid (by rw [HCE.out]; simp)
    go_wp2_with fail
    go_ret
    exact ⟨by rw [HN.out]; rfl, HB.out⟩
  cases b2
  · have HN : Hid (E = 1) := Lib.hid (by rw [HCE.out]; simp)
    go_wp2_with fail
    go_ret
    exact ⟨by rw [HN.out]; rfl, HB.out⟩
  cases b3
  · have HN : Hid (E = 1) := Lib.hid (by rw [HCE.out]; simp)
    go_wp2_with fail
    go_ret
    exact ⟨by rw [HN.out]; rfl, HB.out⟩
  cases b4
  · have HN : Hid (E = 1) := Lib.hid (by rw [HCE.out]; simp)
    go_wp2_with fail
    go_ret
    exact ⟨by rw [HN.out]; rfl, HB.out⟩
  have H6 : Hid (∀ w', Below w.heap.size w w' → ∀ z, F = some z → Calls Tryz.prog 65 #[.agg #[.slice a l.length cap, v2], .int .i64 c] w' fun e w'' => e = .returned (.tuple #[z.val, .bool true]) ∧ Below w'.heap.size w' w'') := Lib.hid (fun w' h z hz => by have h2 := H5.out w' h; rw [hz] at h2; exact h2)
  have H7 : Hid (∀ w', Below w.heap.size w w' → F = none → Calls Tryz.prog 65 #[.agg #[.slice a l.length cap, v2], .int .i64 c] w' fun e w'' => e = .returned (.tuple #[.agg #[.int .i64 0, .int .i64 0, .int .i64 0, .int .i64 0, .int .i64 0, .int .i64 0, .int .i64 0, .int .i64 0], .bool false]) ∧ Below w'.heap.size w' w'') := Lib.hid (fun w' h hz => by have h2 := H5.out w' h; rw [hz] at h2; exact h2)
  clear H5
  rcases F with _ | ⟨z0, z1, z2, z3, z4, z5, z6, z7⟩
  · have HN : Hid (E = 5) := Lib.hid (by rw [HCE.out]; rfl)
    have zc0 := cellH HNc.out 0
    have zc1 := cellH HNc.out 1
    have zk0 := cellH HNk.out 0
    have zk1 := cellH HNk.out 1
    have zk2 := cellH HNk.out 2
    have zk3 := cellH HNk.out 3
    have zk4 := cellH HNk.out 4
    have zk5 := cellH HNk.out 5
    have zk6 := cellH HNk.out 6
    simp only [List.getElem?_toArray, List.getElem?_cons_zero, List.getElem?_cons_succ] at zc0 zc1 zk0 zk1 zk2 zk3 zk4 zk5 zk6
    go_wp2_with fail
    refine (H7.out _ HB.out (by trivial)).mono ?_
    rintro e w4 ⟨rfl, hb⟩
    clear zc0 zc1 zk0 zk1 zk2 zk3 zk4 zk5 zk6
    replace HB := Lib.hid (HB.out.trans (hb.mono HB.out.size))
    replace HNc := Lib.hid ((hb.block _ (Array.getElem?_eq_some_iff.1 HNc.out).1).trans HNc.out)
    replace HNk := Lib.hid ((hb.block _ (Array.getElem?_eq_some_iff.1 HNk.out).1).trans HNk.out)
    clear hb
    have HB2 := Lib.hid (HB.out.alloc HB.out.size (.cells #[.int .i64 0, .int .i64 0, .int .i64 0, .int .i64 0, .int .i64 0, .int .i64 0, .int .i64 0, .int .i64 0] 93))
    go_wp2_with fail
    go_ret
    exact ⟨by rw [HN.out]; rfl, HB2.out⟩
  have HN : Hid (E = if (x == z1 && y == z2) || !ciB t z3 z4 then 1 else 0) := Lib.hid (by rw [HCE.out]; rfl)
  have zc0 := cellH HNc.out 0
  have zc1 := cellH HNc.out 1
  have zk0 := cellH HNk.out 0
  have zk1 := cellH HNk.out 1
  have zk2 := cellH HNk.out 2
  have zk3 := cellH HNk.out 3
  have zk4 := cellH HNk.out 4
  have zk5 := cellH HNk.out 5
  have zk6 := cellH HNk.out 6
  simp only [List.getElem?_toArray, List.getElem?_cons_zero, List.getElem?_cons_succ] at zc0 zc1 zk0 zk1 zk2 zk3 zk4 zk5 zk6
  go_wp2_with fail
  refine (H6.out _ HB.out _ rfl).mono ?_
  rintro e w5 ⟨rfl, hb⟩
  clear zc0 zc1 zk0 zk1 zk2 zk3 zk4 zk5 zk6
  replace HB := Lib.hid (HB.out.trans (hb.mono HB.out.size))
  replace HNc := Lib.hid ((hb.block _ (Array.getElem?_eq_some_iff.1 HNc.out).1).trans HNc.out)
  replace HNk := Lib.hid ((hb.block _ (Array.getElem?_eq_some_iff.1 HNk.out).1).trans HNk.out)
  clear hb
  have hAlc : Below w5.heap.size w5 (w5.alloc (.cells #[.int .i64 z0, .int .i64 z1, .int .i64 z2, .int .i64 z3, .int .i64 z4, .int .i64 z5, .int .i64 z6, .int .i64 z7] 93)) := (Below.refl _ w5).alloc (Nat.le_refl _) _
  have HSf : Hid (w.heap.size ≤ w5.heap.size) := Lib.hid HB.out.size
  have HNf : Hid ((w5.alloc (.cells #[.int .i64 z0, .int .i64 z1, .int .i64 z2, .int .i64 z3, .int .i64 z4, .int .i64 z5, .int .i64 z6, .int .i64 z7] 93)).heap[w5.heap.size]? = some (.cells #[.int .i64 z0, .int .i64 z1, .int .i64 z2, .int .i64 z3, .int .i64 z4, .int .i64 z5, .int .i64 z6, .int .i64 z7] 93 (0, 0))) := Lib.hid (heap_alloc_new _ _)
  replace HB := Lib.hid (HB.out.trans (hAlc.mono HB.out.size))
  replace HNc := Lib.hid ((hAlc.block _ (Array.getElem?_eq_some_iff.1 HNc.out).1).trans HNc.out)
  replace HNk := Lib.hid ((hAlc.block _ (Array.getElem?_eq_some_iff.1 HNk.out).1).trans HNk.out)
  obtain ⟨af, haf⟩ : ∃ qq, w5.alloc (.cells #[.int .i64 z0, .int .i64 z1, .int .i64 z2, .int .i64 z3, .int .i64 z4, .int .i64 z5, .int .i64 z6, .int .i64 z7] 93) = qq := ⟨_, rfl⟩
  obtain ⟨bkf, hbf⟩ : ∃ qq, w5.heap.size = qq := ⟨_, rfl⟩
  rw [haf] at HB HNf HNc HNk
  rw [hbf] at HNf HSf
  clear hAlc
  have zc0 := cellH HNc.out 0
  have zc1 := cellH HNc.out 1
  have zk0 := cellH HNk.out 0
  have zk1 := cellH HNk.out 1
  have zk2 := cellH HNk.out 2
  have zk3 := cellH HNk.out 3
  have zk4 := cellH HNk.out 4
  have zk5 := cellH HNk.out 5
  have zk6 := cellH HNk.out 6
  have zf0 := cellH HNf.out 0
  have zf1 := cellH HNf.out 1
  have zf2 := cellH HNf.out 2
  have zf3 := cellH HNf.out 3
  have zf4 := cellH HNf.out 4
  have zf5 := cellH HNf.out 5
  have zf6 := cellH HNf.out 6
  have zf7 := cellH HNf.out 7
  simp only [List.getElem?_toArray, List.getElem?_cons_zero, List.getElem?_cons_succ] at zc0 zc1 zk0 zk1 zk2 zk3 zk4 zk5 zk6 zf0 zf1 zf2 zf3 zf4 zf5 zf6 zf7
  have HT := HCI.out z3 z4
  have h3 : (z3 ≤ t ∧ t ≤ z4) ∨ t < z3 ∨ (¬ t < z3 ∧ z4 < t) := by omega
  cases g1 : (x == z1)
  all_goals cases g2 : (y == z2)
  all_goals rcases h3 with h3 | h3 | h3
  · skip
    have e3 : ciB t z3 z4 = true := HT.2 h3
    have HN2 : Hid (E = 0) := Lib.hid (by rw [HN.out, g1, g2, e3]; rfl)
    clear e3
    have d3 : decide (t < z3) = false := decide_eq_false (by omega)
    have d4 : decide (z4 < t) = false := decide_eq_false (by omega)
    clear HT h3
    go_wp2_with fail
    go_ret
    exact ⟨by rw [HN2.out]; rfl, HB.out⟩
  · skip
    have e3 : ciB t z3 z4 = false := Bool.eq_false_iff.2 (fun h => by have := HT.1 h; omega)
    have HN2 : Hid (E = 1) := Lib.hid (by rw [HN.out, e3]; simp)
    clear e3
    have d3 : decide (t < z3) = true := decide_eq_true (by omega)
    clear HT h3
    go_wp2_with fail
    go_ret
    exact ⟨by rw [HN2.out]; rfl, HB.out⟩
  · skip
    have e3 : ciB t z3 z4 = false := Bool.eq_false_iff.2 (fun h => by have := HT.1 h; omega)
    have HN2 : Hid (E = 1) := Lib.hid (by rw [HN.out, e3]; simp)
    clear e3
    have d3 : decide (t < z3) = false := decide_eq_false (by omega)
    have d4 : decide (z4 < t) = true := decide_eq_true (by omega)
    clear HT h3
    go_wp2_with fail
    go_ret
    exact ⟨by rw [HN2.out]; rfl, HB.out⟩
  · skip
    have e3 : ciB t z3 z4 = true := HT.2 h3
    have HN2 : Hid (E = 0) := Lib.hid (by rw [HN.out, g1, g2, e3]; rfl)
    clear e3
    have d3 : decide (t < z3) = false := decide_eq_false (by omega)
    have d4 : decide (z4 < t) = false := decide_eq_false (by omega)
    clear HT h3
    go_wp2_with fail
    go_ret
    exact ⟨by rw [HN2.out]; rfl, HB.out⟩
  · skip
    have e3 : ciB t z3 z4 = false := Bool.eq_false_iff.2 (fun h => by have := HT.1 h; omega)
    have HN2 : Hid (E = 1) := Lib.hid (by rw [HN.out, e3]; simp)
    clear e3
    have d3 : decide (t < z3) = true := decide_eq_true (by omega)
    clear HT h3
    go_wp2_with fail
    go_ret
    exact ⟨by rw [HN2.out]; rfl, HB.out⟩
  · skip
    have e3 : ciB t z3 z4 = false := Bool.eq_false_iff.2 (fun h => by have := HT.1 h; omega)
    have HN2 : Hid (E = 1) := Lib.hid (by rw [HN.out, e3]; simp)
    clear e3
    have d3 : decide (t < z3) = false := decide_eq_false (by omega)
    have d4 : decide (z4 < t) = true := decide_eq_true (by omega)
    clear HT h3
    go_wp2_with fail
    go_ret
    exact ⟨by rw [HN2.out]; rfl, HB.out⟩
  · skip
    have e3 : ciB t z3 z4 = true := HT.2 h3
    have HN2 : Hid (E = 0) := Lib.hid (by rw [HN.out, g1, g2, e3]; rfl)
    clear e3
    have d3 : decide (t < z3) = false := decide_eq_false (by omega)
    have d4 : decide (z4 < t) = false := decide_eq_false (by omega)
    clear HT h3
    go_wp2_with fail
    go_ret
    exact ⟨by rw [HN2.out]; rfl, HB.out⟩
  · skip
    have e3 : ciB t z3 z4 = false := Bool.eq_false_iff.2 (fun h => by have := HT.1 h; omega)
    have HN2 : Hid (E = 1) := Lib.hid (by rw [HN.out, e3]; simp)
    clear e3
    have d3 : decide (t < z3) = true := decide_eq_true (by omega)
    clear HT h3
    go_wp2_with fail
    go_ret
    exact ⟨by rw [HN2.out]; rfl, HB.out⟩
  · skip
    have e3 : ciB t z3 z4 = false := Bool.eq_false_iff.2 (fun h => by have := HT.1 h; omega)
    have HN2 : Hid (E = 1) := Lib.hid (by rw [HN.out, e3]; simp)
    clear e3
    have d3 : decide (t < z3) = false := decide_eq_false (by omega)
    have d4 : decide (z4 < t) = true := decide_eq_true (by omega)
    clear HT h3
    go_wp2_with fail
    go_ret
    exact ⟨by rw [HN2.out]; rfl, HB.out⟩
  · skip
    have HN2 : Hid (E = 1) := Lib.hid (by rw [HN.out, g1, g2]; rfl)
    clear HT h3
    go_wp2_with fail
    go_ret
    exact ⟨by rw [HN2.out]; rfl, HB.out⟩
  · skip
    have e3 : ciB t z3 z4 = false := Bool.eq_false_iff.2 (fun h => by have := HT.1 h; omega)
    have HN2 : Hid (E = 1) := Lib.hid (by rw [HN.out, e3]; simp)
    clear e3
    clear HT h3
    go_wp2_with fail
    go_ret
    exact ⟨by rw [HN2.out]; rfl, HB.out⟩
  · skip
    have e3 : ciB t z3 z4 = false := Bool.eq_false_iff.2 (fun h => by have := HT.1 h; omega)
    have HN2 : Hid (E = 1) := Lib.hid (by rw [HN.out, e3]; simp)
    clear e3
    clear HT h3
    go_wp2_with fail
    go_ret
    exact ⟨by rw [HN2.out]; rfl, HB.out⟩
end Go.Proofs.YtebdboacmeafaaaGreat
/- Package firetowerref05: Check. -/
set_option linter.unusedVariables false
set_option linter.unusedSimpArgs false
namespace Go.Proofs.YtebdboacmeafaaaGreat
open Go Go.RowKit

theorem ciF_take_none {l : List Ci} {id : Int} {n : Nat} (hn : n ≤ l.length) (h : ∀ j, j < n → ((l.getD j .nil).id == id) = false) : ciF (l.take n) id = none := by
  refine ciF_miss fun j hj => ?_
  rw [List.length_take] at hj
  have := h j (by omega)
  rwa [List.getD_eq_getElem?_getD, List.getElem?_take_of_lt (by omega), ← List.getD_eq_getElem?_getD]
theorem ciF_take_some {l : List Ci} {id : Int} {n j : Nat} (hn : n ≤ l.length) (hj : j < n) (h : ((l.getD j .nil).id == id) = true) : (ciF (l.take n) id).isSome = true := by
  unfold ciF
  rw [List.find?_isSome]
  refine ⟨l.getD j .nil, ?_, h⟩
  rw [List.getD_eq_getElem?_getD, List.getElem?_eq_getElem (by omega)]
  exact List.mem_take_iff_getElem.2 ⟨j, by omega, rfl⟩
theorem ckF_take_none {l : List Ck} {id : Int} {n : Nat} (hn : n ≤ l.length) (h : ∀ j, j < n → ((l.getD j .nil).id == id) = false) : ckF (l.take n) id = none := by
  refine ckF_miss fun j hj => ?_
  rw [List.length_take] at hj
  have := h j (by omega)
  rwa [List.getD_eq_getElem?_getD, List.getElem?_take_of_lt (by omega), ← List.getD_eq_getElem?_getD]
theorem ckF_take_some {l : List Ck} {id : Int} {n j : Nat} (hn : n ≤ l.length) (hj : j < n) (h : ((l.getD j .nil).id == id) = true) : (ckF (l.take n) id).isSome = true := by
  unfold ckF
  rw [List.find?_isSome]
  refine ⟨l.getD j .nil, ?_, h⟩
  rw [List.getD_eq_getElem?_getD, List.getElem?_eq_getElem (by omega)]
  exact List.mem_take_iff_getElem.2 ⟨j, by omega, rfl⟩
theorem belowN {n : Nat} {w W : World} (h : Below n w W) (k : Nat) : Below n w (W.drewN k) := ⟨h.os, h.tape, h.output, h.size, h.block⟩
set_option maxRecDepth 100000 in
set_option maxHeartbeats 8000000 in
theorem pCheck_any (v1 v2 : Value) (cs : List Ci) (ks : List Ck) (w : World) (hv1 : CiRow w v1 cs) (hv2 : CkRow w v2 ks) (hl1 : cs.length ≤ 9223372036854775807) (hl2 : ks.length ≤ 9223372036854775807) :
    Calls Tryz.prog 42 #[.agg #[v1, v2]] w fun e w' => e = .returned (.int .i64 (ccE cs ks)) ∧ Below w.heap.size w w' := by
  obtain ⟨a1, c1, rfl, hc1⟩ := hv1.form
  obtain ⟨a2, c2, rfl, hc2⟩ := hv2.form
  have HC1 := Lib.hid hc1
  have HC2 := Lib.hid hc2
  have HV1 := Lib.hid hv1
  have HV2 := Lib.hid hv2
  have HCC : Hid (ccE cs ks = if (decide (12 < cs.length) || decide (60 < ks.length)) = true then 2 else if ciE cs cs.length = 0 then ckE cs ks ks.length else ciE cs cs.length) := Lib.hid rfl
  have HCI := Lib.hid (fun k => ccE_ci (cs := cs) (ks := ks) (k := k))
  have HCK := Lib.hid (fun k => ccE_ck (cs := cs) (ks := ks) (k := k))
  obtain ⟨E, hE⟩ : ∃ z, ccE cs ks = z := ⟨_, rfl⟩
  rw [hE] at HCC HCI HCK ⊢
  clear hc1 hc2 hv1 hv2 hE
  obtain ⟨x0, xlt, xb⟩ := cells1 w #[.slice a1 cs.length c1, .slice a2 ks.length c2] 25 (Below.refl _ _)
  have HNc : Hid ((w.alloc (.cells #[.slice a1 cs.length c1, .slice a2 ks.length c2] 25)).heap[w.heap.size]? = some (.cells #[.slice a1 cs.length c1, .slice a2 ks.length c2] 25 (0, 0))) := Lib.hid x0
  have HB : Hid (Below w.heap.size w (w.alloc (.cells #[.slice a1 cs.length c1, .slice a2 ks.length c2] 25))) := Lib.hid xb
  obtain ⟨Z, hZ⟩ : ∃ Z, (w.alloc (.cells #[.slice a1 cs.length c1, .slice a2 ks.length c2] 25)) = Z := ⟨_, rfl⟩
  rw [hZ] at HB HNc
  have HZ := Lib.hid hZ
  clear hZ xlt xb x0
  have zc0 := cellH HNc.out 0
  have zc1 := cellH HNc.out 1
  simp only [List.getElem?_toArray, List.getElem?_cons_zero, List.getElem?_cons_succ] at zc0 zc1
  by_cases h1 : 12 < cs.length
  · have h1i : (12 : Int) < (cs.length : Int) := by omega
    have HN : Hid (E = 2) := Lib.hid (by rw [HCC.out, decide_eq_true h1]; rfl)
    go_enter Tryz.func42, Tryz.ntmps42
    go_wp2_with fail
    try rw [HZ.out]
    go_ret
    exact ⟨by rw [HN.out]; rfl, HB.out⟩
  have h1i : ¬ (12 : Int) < (cs.length : Int) := by omega
  by_cases h2 : 60 < ks.length
  · have h2i : (60 : Int) < (ks.length : Int) := by omega
    have HN : Hid (E = 2) := Lib.hid (by rw [HCC.out, decide_eq_true h2]; simp)
    go_enter Tryz.func42, Tryz.ntmps42
    go_wp2_with fail
    try rw [HZ.out]
    go_ret
    exact ⟨by rw [HN.out]; rfl, HB.out⟩
  have h2i : ¬ (60 : Int) < (ks.length : Int) := by omega
  have HB0 : Hid ((decide (12 < cs.length) || decide (60 < ks.length)) = false) := Lib.hid (by rw [decide_eq_false h1, decide_eq_false h2]; rfl)
  have HCC2 : Hid (E = if ciE cs cs.length = 0 then ckE cs ks ks.length else ciE cs cs.length) := Lib.hid (by rw [HCC.out, HB0.out]; rfl)
  have HM := Lib.hid (show cs.length ≤ 12 ∧ ks.length ≤ 60 from ⟨by omega, by omega⟩)
  go_enter Tryz.func42, Tryz.ntmps42
  go_wp2_with fail
  try rw [HZ.out]
  clear zc0 zc1
  clear h1 h1i h2 h2i HCC
  go_loopw [3] (fun i wr => ∃ (k : Nat), k ≤ cs.length ∧ i = .int .i64 k ∧ Hid (ciE cs k = 0) ∧ Hid (Below w.heap.size w wr) ∧ Hid (wr.heap[w.heap.size]? = some (.cells #[.slice a1 cs.length c1, .slice a2 ks.length c2] 25 (0, 0)))) (fun i _ => cs.length - (intOf i).toNat)
  case atStart => exact ⟨0, Nat.zero_le _, rfl, Lib.hid rfl, HB, HNc⟩
  case round =>
    clear HB HNc
    obtain ⟨k, hk, rfl, hE0, HB, HNc⟩ := hrel
    have hm := HM.out
    have zc0 := cellH HNc.out 0
    have zc1 := cellH HNc.out 1
    simp only [List.getElem?_toArray, List.getElem?_cons_zero, List.getElem?_cons_succ] at zc0 zc1
    by_cases hkl : k < cs.length
    · obtain ⟨b, off, rfl, hb, hat⟩ := HC1.out k hkl
      obtain ⟨e0, e1, e2, e3, e4, e5, e6, e7⟩ := hat.keep HB.out hb
      have hki : (k : Int) < cs.length := by omega
      have hk0 : (0 : Int) ≤ k := by omega
      have HKL := Lib.hid hkl
      have HBL := Lib.hid hb
      have HES : Hid (ciE cs (k + 1) = if (cs.getD k .nil).ok then (if (ciF (cs.take k) (cs.getD k .nil).id).isSome then 6 else 0) else 1) := Lib.hid (by
        show (if ciE cs k = 0 then _ else _) = _
        rw [if_pos hE0.out])
      have HTN := Lib.hid (fun h => ciF_take_none (l := cs) (id := (cs.getD k .nil).id) (n := k) (by omega) h)
      have HTS := Lib.hid (fun j hj h => ciF_take_some (l := cs) (id := (cs.getD k .nil).id) (n := k) (j := j) (by omega) hj h)
      obtain ⟨X, hX⟩ : ∃ X, cs.getD k .nil = X := ⟨_, rfl⟩
      rw [hX] at HES HTN HTS hat e0 e1 e2 e3 e4 e5 e6 e7
      have HAT := Lib.hid hat
      have HVC := Lib.hid (fun w' => circled_any X w')
      obtain ⟨bo, hbo⟩ : ∃ z, X.ok = z := ⟨_, rfl⟩
      rw [hbo] at HVC HES
      obtain ⟨x0, x1, x2, x3, x4, x5, x6, x7⟩ := X
      simp only at e0 e1 e2 e3 e4 e5 e6 e7 HTN HTS HES
      clear hX hbo hat hb
      go_wp2_with fail
      refine (HVC.out _).mono ?_
      rintro e w1 ⟨rfl, hb⟩
      clear zc0 zc1
      replace HB := Lib.hid (HB.out.trans (hb.mono HB.out.size))
      replace HNc := Lib.hid ((hb.block _ (Array.getElem?_eq_some_iff.1 HNc.out).1).trans HNc.out)
      clear hb
      clear e0 e1 e2 e3 e4 e5 e6 e7
      cases bo
      · have HES2 : Hid (ciE cs (k + 1) = 1) := Lib.hid (by rw [HES.out]; rfl)
        have HN : Hid (E = 1) := Lib.hid (by rw [HCI.out k HB0.out HKL.out (by rw [HES2.out]; decide), HES2.out])
        go_wp2_with fail
        go_ret
        exact ⟨by rw [HN.out]; rfl, HB.out⟩
      go_wp2_with fail
      go_loopw [5] (fun j wr => ∃ (m : Nat), m ≤ k ∧ j = .int .i64 m ∧ Hid (∀ j, j < m → ((cs.getD j .nil).id == x0) = false) ∧ Hid (Below w.heap.size w wr) ∧ Hid (wr.heap[w.heap.size]? = some (.cells #[.slice (some ⟨b, off, none⟩) cs.length c1, .slice a2 ks.length c2] 25 (0, 0)))) (fun j _ => k - (intOf j).toNat)
      case atStart => exact ⟨0, Nat.zero_le _, rfl, Lib.hid (fun j hj => by omega), HB, HNc⟩
      case round =>
        clear HB HNc
        obtain ⟨m, hmk, rfl, hN, HB, HNc⟩ := hrel
        by_cases hml : m < k
        · have hkl := HKL.out
          obtain ⟨b2, off2, heq, hb, hat⟩ := HC1.out m (by omega)
          cases heq
          obtain ⟨f0, _⟩ := hat.keep HB.out hb
          obtain ⟨e0, _⟩ := HAT.out.keep HB.out HBL.out
          have hki : (k : Int) < cs.length := by omega
          have hk0 : (0 : Int) ≤ k := by omega
          have hmi : (m : Int) < cs.length := by omega
          have hm0 : (0 : Int) ≤ m := by omega
          have hmk2 : (m : Int) < k := by omega
          have HML := Lib.hid hml
          have zc0 := cellH HNc.out 0
          have zc1 := cellH HNc.out 1
          simp only [List.getElem?_toArray, List.getElem?_cons_zero, List.getElem?_cons_succ] at zc0 zc1
          have HHT := Lib.hid (HTS.out m hml)
          have HNX : Hid (((cs.getD m .nil).id == x0) = false → ∀ j, j < m + 1 → ((cs.getD j .nil).id == x0) = false) := Lib.hid (fun h j hj => by
            by_cases e : j = m
            · subst e; exact h
            · exact hN.out j (by omega))
          obtain ⟨y, hy⟩ : ∃ y, (cs.getD m .nil).id = y := ⟨_, rfl⟩
          rw [hy] at f0 HHT HNX
          simp only at e0
          clear hat hb hy hkl
          cases hE : (y == x0)
          · have HN2 := Lib.hid (HNX.out hE)
            go_wp2_with fail
            go_quiet (fail)
            go_wp2_with fail
            go_roundw
            case rel => exact ⟨m + 1, HML.out, by go_num, HN2, Lib.hid (belowN HB.out _), HNc⟩
            case measure => have := HML.out; simp [intOf]; omega
          · have HES2 : Hid (ciE cs (k + 1) = 6) := Lib.hid (by rw [HES.out, HHT.out hE]; rfl)
            have HN2 : Hid (E = 6) := Lib.hid (by rw [HCI.out k HB0.out HKL.out (by rw [HES2.out]; decide), HES2.out])
            go_wp2_with fail
            go_quiet (fail)
            go_wp2_with fail
            go_ret
            exact ⟨by rw [HN2.out]; rfl, belowN HB.out _⟩
        · obtain rfl : m = k := by omega
          have HES2 : Hid (ciE cs (m + 1) = 0) := Lib.hid (by rw [HES.out, HTN.out hN.out]; rfl)
          go_wp2_with fail
          go_roundw
          case rel => exact ⟨m + 1, HKL.out, by go_num, HES2, HB, HNc⟩
          case measure => have := HKL.out; simp [intOf]; omega
    · obtain rfl : k = cs.length := by omega
      have HCC3 : Hid (E = ckE cs ks ks.length) := Lib.hid (by rw [HCC2.out, if_pos hE0.out])
      have HCK2 := Lib.hid (fun k => HCK.out k HB0.out hE0.out)
      go_wp2_with fail
      clear zc0 zc1
      clear HCC2 HCI
      go_loopw [6] (fun i wr => ∃ (k : Nat), k ≤ ks.length ∧ i = .int .i64 k ∧ Hid (ckE cs ks k = 0) ∧ Hid (Below w.heap.size w wr) ∧ Hid (wr.heap[w.heap.size]? = some (.cells #[.slice a1 cs.length c1, .slice a2 ks.length c2] 25 (0, 0)))) (fun i _ => ks.length - (intOf i).toNat)
      case atStart => exact ⟨0, Nat.zero_le _, rfl, Lib.hid rfl, HB, HNc⟩
      case round =>
        clear HB HNc
        obtain ⟨k, hk, rfl, hF0, HB, HNc⟩ := hrel
        have zc0 := cellH HNc.out 0
        have zc1 := cellH HNc.out 1
        simp only [List.getElem?_toArray, List.getElem?_cons_zero, List.getElem?_cons_succ] at zc0 zc1
        by_cases hkl : k < ks.length
        · obtain ⟨b, off, rfl, hb, hat⟩ := HC2.out k hkl
          obtain ⟨e0, e1, e2, e3, e4, e5, e6⟩ := hat.keep HB.out hb
          have hki : (k : Int) < ks.length := by omega
          have hk0 : (0 : Int) ≤ k := by omega
          have HKL := Lib.hid hkl
          have HBL := Lib.hid hb
          have HES : Hid (ckE cs ks (k + 1) = if ceK cs (ks.getD k .nil) = 0 then (if (ckF (ks.take k) (ks.getD k .nil).id).isSome then 6 else 0) else ceK cs (ks.getD k .nil)) := Lib.hid (by
            show (if ckE cs ks k = 0 then _ else _) = _
            rw [if_pos hF0.out])
          have HTN := Lib.hid (fun h => ckF_take_none (l := ks) (id := (ks.getD k .nil).id) (n := k) (by omega) h)
          have HTS := Lib.hid (fun j hj h => ckF_take_some (l := ks) (id := (ks.getD k .nil).id) (n := k) (j := j) (by omega) hj h)
          obtain ⟨X, hX⟩ : ∃ X, ks.getD k .nil = X := ⟨_, rfl⟩
          rw [hX] at HES HTN HTS hat
          have HAT := Lib.hid hat
          have HVC := Lib.hid (fun w' (h : Below w.heap.size w w') => checked_any _ (.slice (some ⟨b, off, none⟩) ks.length c2) cs X w' (HV1.out.keep h) (by have := HM.out; omega))
          obtain ⟨ce, hce⟩ : ∃ z, ceK cs X = z := ⟨_, rfl⟩
          rw [hce] at HVC HES
          obtain ⟨x0, x1, x2, x3, x4, x5, x6⟩ := X
          simp only at HTN HTS HES
          clear hX hce hat hb e0 e1 e2 e3 e4 e5 e6
          have HRD : Hid (∀ W', Below wr.heap.size wr W' → W'.cell? ⟨w.heap.size, 0, none⟩ = some (.slice a1 cs.length c1) ∧ W'.cell? ⟨w.heap.size, 1, none⟩ = some (.slice (some ⟨b, off, none⟩) ks.length c2) ∧ CkAt W' b off k ⟨x0, x1, x2, x3, x4, x5, x6⟩) := Lib.hid (fun W' h => ⟨cellH ((h.block _ (Array.getElem?_eq_some_iff.1 HNc.out).1).trans HNc.out) 0, cellH ((h.block _ (Array.getElem?_eq_some_iff.1 HNc.out).1).trans HNc.out) 1, HAT.out.keep (HB.out.trans (h.mono HB.out.size)) HBL.out⟩)
          have CV : Hid (∀ w', Below wr.heap.size wr w' → Calls Tryz.prog 104 #[.agg #[.slice a1 cs.length c1, .slice (some ⟨b, off, none⟩) ks.length c2], .agg #[.int .i64 x0, .int .i64 x1, .int .i64 x2, .int .i64 x3, .int .i64 x4, .int .i64 x5, .int .i64 x6]] w' fun e w'' => e = .returned (.int .i64 ce) ∧ Below wr.heap.size wr w'') := Lib.hid (fun w' h => (HVC.out w' (HB.out.trans (h.mono HB.out.size))).mono fun e w'' ⟨he, hh⟩ => ⟨he, h.trans (hh.mono h.size)⟩)
          go_wp2_with fail
          clear zc0 zc1
          refine wp_region_turn 7 (fun _ w' => Below wr.heap.size wr w') (by kernel_rfl) (by kernel_rfl) ((Below.refl _ wr).drew) ?_
          simp only [List.take_succ_cons, List.take_zero, List.drop_succ_cons, List.drop_zero]
          iterate 7
            (first
              | (apply turnC_step (by rfl); (intro w' hw'; obtain ⟨zc0, zc1, ⟨e0, e1, e2, e3, e4, e5, e6⟩⟩ := HRD.out w' hw'; go_simp; first | with_reducible exact ⟨hw', rfl⟩ | with_reducible exact rfl))
              | (apply turnC_step (by rfl); (intro w' hw'; go_simp; first | with_reducible exact CV.out w' hw')))
            simp only [Act.put, List.setIfInBounds_toArray, List.set_cons_succ, List.set_cons_zero]
          intro listed w2 _ hb
          replace HB := Lib.hid (HB.out.trans (hb.mono HB.out.size))
          replace HNc := Lib.hid ((hb.block _ (Array.getElem?_eq_some_iff.1 HNc.out).1).trans HNc.out)
          clear hb
          by_cases hce : ce = 0
          case neg =>
            have HES2 : Hid (ckE cs ks (k + 1) = ce) := Lib.hid (by rw [HES.out, if_neg hce])
            have HN : Hid (E = ce) := Lib.hid (by rw [HCK2.out k HKL.out (by rw [HES2.out]; exact hce), HES2.out])
            have gce : (ce == 0) = false := by simpa using hce
            go_wp2_with fail
            go_ret
            exact ⟨by rw [HN.out]; rfl, HB.out⟩
          subst hce
          go_wp2_with fail
          go_loopw [8] (fun j wr => ∃ (m : Nat), m ≤ k ∧ j = .int .i64 m ∧ Hid (∀ j, j < m → ((ks.getD j .nil).id == x0) = false) ∧ Hid (Below w.heap.size w wr) ∧ Hid (wr.heap[w.heap.size]? = some (.cells #[.slice a1 cs.length c1, .slice (some ⟨b, off, none⟩) ks.length c2] 25 (0, 0)))) (fun j _ => k - (intOf j).toNat)
          case atStart => exact ⟨0, Nat.zero_le _, rfl, Lib.hid (fun j hj => by omega), HB, HNc⟩
          case round =>
            clear HB HNc
            obtain ⟨m, hmk, rfl, hN, HB, HNc⟩ := hrel
            by_cases hml : m < k
            · have hkl := HKL.out
              obtain ⟨b2, off2, heq, hb, hat⟩ := HC2.out m (by omega)
              cases heq
              obtain ⟨f0, _⟩ := hat.keep HB.out hb
              obtain ⟨e0, _⟩ := HAT.out.keep HB.out HBL.out
              have hki : (k : Int) < ks.length := by omega
              have hk0 : (0 : Int) ≤ k := by omega
              have hmi : (m : Int) < ks.length := by omega
              have hm0 : (0 : Int) ≤ m := by omega
              have hmk2 : (m : Int) < k := by omega
              have HML := Lib.hid hml
              have zc0 := cellH HNc.out 0
              have zc1 := cellH HNc.out 1
              simp only [List.getElem?_toArray, List.getElem?_cons_zero, List.getElem?_cons_succ] at zc0 zc1
              have HHT := Lib.hid (HTS.out m hml)
              have HNX : Hid (((ks.getD m .nil).id == x0) = false → ∀ j, j < m + 1 → ((ks.getD j .nil).id == x0) = false) := Lib.hid (fun h j hj => by
                by_cases e : j = m
                · subst e; exact h
                · exact hN.out j (by omega))
              obtain ⟨y, hy⟩ : ∃ y, (ks.getD m .nil).id = y := ⟨_, rfl⟩
              rw [hy] at f0 HHT HNX
              simp only at e0
              clear hat hb hy hkl
              cases hE : (y == x0)
              · have HN2 := Lib.hid (HNX.out hE)
                go_wp2_with fail
                go_quiet (fail)
                go_wp2_with fail
                go_roundw
                case rel => exact ⟨m + 1, HML.out, by go_num, HN2, Lib.hid (belowN HB.out _), HNc⟩
                case measure => have := HML.out; simp [intOf]; omega
              · have HES2 : Hid (ckE cs ks (k + 1) = 6) := Lib.hid (by rw [HES.out, HHT.out hE]; rfl)
                have HN2 : Hid (E = 6) := Lib.hid (by rw [HCK2.out k HKL.out (by rw [HES2.out]; decide), HES2.out])
                go_wp2_with fail
                go_quiet (fail)
                go_wp2_with fail
                go_ret
                exact ⟨by rw [HN2.out]; rfl, belowN HB.out _⟩
            · obtain rfl : m = k := by omega
              have HES2 : Hid (ckE cs ks (m + 1) = 0) := Lib.hid (by rw [HES.out, HTN.out hN.out]; rfl)
              go_wp2_with fail
              go_roundw
              case rel => exact ⟨m + 1, HKL.out, by go_num, HES2, HB, HNc⟩
              case measure => have := HKL.out; simp [intOf]; omega
        · obtain rfl : k = ks.length := by omega
          have HN : Hid (E = 0) := Lib.hid (by rw [HCC3.out, hF0.out])
          go_wp2_with fail
          go_ret
          exact ⟨by rw [HN.out]; rfl, HB.out⟩
end Go.Proofs.YtebdboacmeafaaaGreat
