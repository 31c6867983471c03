/- Package firetowerref05: Shows, asked. -/
import Derived.Test.YtebdboacmeafaaaGreatCCB
import Derived.Test.YtebdboacmeafaaaGreatCF6
import Derived.Test.YtebdboacmeafaaaGreatCAA
set_option linter.unusedVariables false
set_option linter.unusedSimpArgs false
namespace Go.Proofs.YtebdboacmeafaaaGreat
open Go Go.RowKit

theorem ceil_neg {A D : Int} (h : 1 ≤ D) : -(-A / D) = (A + D - 1) / D := by
  have h1 : D * (-A / D) + -A % D = -A := Int.mul_ediv_add_emod (-A) D
  have h2 := Int.emod_nonneg (-A) (by omega : D ≠ 0)
  have h3 := Int.emod_lt_of_pos (-A) (by omega : 0 < D)
  obtain ⟨q, hq⟩ : ∃ q, -A / D = q := ⟨_, rfl⟩
  obtain ⟨r, hr⟩ : ∃ r, -A % D = r := ⟨_, rfl⟩
  rw [hq, hr] at h1
  rw [hr] at h2 h3
  rw [hq]
  have e : A + D - 1 = (D - 1 - r) + (-q) * D := by
    have : -q * D = -(D * q) := by rw [Int.neg_mul, Int.mul_comm]
    omega
  rw [e, Int.add_mul_ediv_right _ _ (by omega), Int.ediv_eq_zero_of_lt (by omega) (by omega), Int.zero_add]
theorem sm_mul {x D : Int} (hx : -400 ≤ x ∧ x ≤ 400) (hD : 1 ≤ D ∧ D ≤ 48) : -19200 ≤ x * D ∧ x * D ≤ 19200 := by
  have h1 := Int.mul_le_mul_of_nonneg_right hx.1 (by omega : 0 ≤ D)
  have h2 := Int.mul_le_mul_of_nonneg_right hx.2 (by omega : 0 ≤ D)
  omega
def asB (rs rl : Int) : Bool := ciB rs 0 3599 && ciB rl 1 100
def asE (cs : List Ci) (ks : List Ck) (rc rt rs rl : Int) : Int := if ccE cs ks = 0 then (if asB rs rl = true then yrE cs ks rc rt else 1) else ccE cs ks
def asL (cs : List Ci) (ks : List Ck) (rc rt rs rl : Int) : Int := if ccE cs ks = 0 then (if asB rs rl = true then yrL cs ks rc rt else 0) else 0
def asH (cs : List Ci) (ks : List Ck) (rc rt rs rl : Int) : Int := if ccE cs ks = 0 then (if asB rs rl = true then yrH cs ks rc rt else 0) else 0
set_option maxRecDepth 100000 in
set_option maxHeartbeats 8000000 in
theorem asked_any (v1 v2 : Value) (cs : List Ci) (ks : List Ck) (rc rt rs rl : Int) (w : World) (hv1 : CiRow w v1 cs) (hv2 : CkRow w v2 ks) (hl1 : cs.length ≤ 9223372036854775807) (hl2 : ks.length ≤ 9223372036854775807) :
    Calls Tryz.prog 79 #[.agg #[v1, v2], .agg #[.int .i64 rc, .int .i64 rt, .int .i64 rs, .int .i64 rl]] w fun e w' => e = .returned (.agg #[.int .i64 (asL cs ks rc rt rs rl), .int .i64 (asH cs ks rc rt rs rl), .int .i64 (asE cs ks rc rt rs rl)]) ∧ Below w.heap.size w w' := by
  obtain ⟨a1, c1, rfl, _⟩ := hv1.form
  obtain ⟨a2, c2, rfl, _⟩ := hv2.form
  have HCH := Lib.hid (fun w' (h : Below w.heap.size w w') => pCheck_any (.slice a1 cs.length c1) (.slice a2 ks.length c2) cs ks w' (hv1.keep h) (hv2.keep h) hl1 hl2)
  have HZE := Lib.hid (fun w' (h : Below w.heap.size w w') => rZero_any (.slice a1 cs.length c1) (.slice a2 ks.length c2) cs ks rc rt w' (hv1.keep h) (hv2.keep h) hl1 hl2)
  have H2 := Lib.hid (fun w' => pwithin_any rs 0 3599 w')
  have H3 := Lib.hid (fun w' => pwithin_any rl 1 100 w')
  have HE : Hid (asE cs ks rc rt rs rl = if ccE cs ks = 0 then (if (ciB rs 0 3599 && ciB rl 1 100) = true then yrE cs ks rc rt else 1) else ccE cs ks) := Lib.hid rfl
  have HL : Hid (asL cs ks rc rt rs rl = if ccE cs ks = 0 then (if (ciB rs 0 3599 && ciB rl 1 100) = true then yrL cs ks rc rt else 0) else 0) := Lib.hid rfl
  have HH : Hid (asH cs ks rc rt rs rl = if ccE cs ks = 0 then (if (ciB rs 0 3599 && ciB rl 1 100) = true then yrH cs ks rc rt else 0) else 0) := Lib.hid rfl
  obtain ⟨RE, hRE⟩ : ∃ N, asE cs ks rc rt rs rl = N := ⟨_, rfl⟩
  obtain ⟨RL, hRL⟩ : ∃ N, asL cs ks rc rt rs rl = N := ⟨_, rfl⟩
  obtain ⟨RH, hRH⟩ : ∃ N, asH cs ks rc rt rs rl = N := ⟨_, rfl⟩
  obtain ⟨E, hE⟩ : ∃ N, ccE cs ks = N := ⟨_, rfl⟩
  obtain ⟨YE, hYE⟩ : ∃ N, yrE cs ks rc rt = N := ⟨_, rfl⟩
  obtain ⟨YL, hYL⟩ : ∃ N, yrL cs ks rc rt = N := ⟨_, rfl⟩
  obtain ⟨YH, hYH⟩ : ∃ N, yrH cs ks rc rt = N := ⟨_, rfl⟩
  obtain ⟨b1, hb1⟩ : ∃ N, ciB rs 0 3599 = N := ⟨_, rfl⟩
  obtain ⟨b2, hb2⟩ : ∃ N, ciB rl 1 100 = N := ⟨_, rfl⟩
  rw [hRE, hE, hb1, hb2, hYE] at HE
  rw [hRL, hE, hb1, hb2, hYL] at HL
  rw [hRH, hE, hb1, hb2, hYH] at HH
  rw [hE] at HCH
  rw [hYE, hYL, hYH] at HZE
  rw [hb1] at H2
  rw [hb2] at H3
  rw [hRE, hRL, hRH]
  clear hRE hRL hRH hE hYE hYL hYH hb1 hb2 hv1 hv2
  obtain ⟨x0, x1, x2, xlt, xb⟩ := cells3 w #[.slice a1 cs.length c1, .slice a2 ks.length c2] #[.int .i64 rc, .int .i64 rt, .int .i64 rs, .int .i64 rl] #[.int .i64 0, .int .i64 0, .int .i64 0] 25 50 145 (Below.refl _ _)
  have HNc : Hid ((((w.alloc (.cells #[.slice a1 cs.length c1, .slice a2 ks.length c2] 25)).alloc (.cells #[.int .i64 rc, .int .i64 rt, .int .i64 rs, .int .i64 rl] 50)).alloc (.cells #[.int .i64 0, .int .i64 0, .int .i64 0] 145)).heap[w.heap.size]? = some (.cells #[.slice a1 cs.length c1, .slice a2 ks.length c2] 25 (0, 0))) := Lib.hid x0
  have HNq : Hid ((((w.alloc (.cells #[.slice a1 cs.length c1, .slice a2 ks.length c2] 25)).alloc (.cells #[.int .i64 rc, .int .i64 rt, .int .i64 rs, .int .i64 rl] 50)).alloc (.cells #[.int .i64 0, .int .i64 0, .int .i64 0] 145)).heap[w.heap.size + 1]? = some (.cells #[.int .i64 rc, .int .i64 rt, .int .i64 rs, .int .i64 rl] 50 (0, 0))) := Lib.hid x1
  have HNr : Hid ((((w.alloc (.cells #[.slice a1 cs.length c1, .slice a2 ks.length c2] 25)).alloc (.cells #[.int .i64 rc, .int .i64 rt, .int .i64 rs, .int .i64 rl] 50)).alloc (.cells #[.int .i64 0, .int .i64 0, .int .i64 0] 145)).heap[w.heap.size + 1 + 1]? = some (.cells #[.int .i64 0, .int .i64 0, .int .i64 0] 145 (0, 0))) := Lib.hid x2
  have HB : Hid (Below w.heap.size w (((w.alloc (.cells #[.slice a1 cs.length c1, .slice a2 ks.length c2] 25)).alloc (.cells #[.int .i64 rc, .int .i64 rt, .int .i64 rs, .int .i64 rl] 50)).alloc (.cells #[.int .i64 0, .int .i64 0, .int .i64 0] 145))) := Lib.hid xb
  obtain ⟨Z, hZ⟩ : ∃ Z, (((w.alloc (.cells #[.slice a1 cs.length c1, .slice a2 ks.length c2] 25)).alloc (.cells #[.int .i64 rc, .int .i64 rt, .int .i64 rs, .int .i64 rl] 50)).alloc (.cells #[.int .i64 0, .int .i64 0, .int .i64 0] 145)) = Z := ⟨_, rfl⟩
  rw [hZ] at HB HNc HNq HNr
  have HZ := Lib.hid hZ
  clear hZ xlt xb x0 x1 x2
  go_enter Tryz.func79, Tryz.ntmps79
  go_wp2_with fail
  rw [HZ.out]
  refine (HCH.out _ HB.out).mono ?_
  rintro e w1 ⟨rfl, hb⟩
  replace HB := Lib.hid (HB.out.trans (hb.mono HB.out.size))
  replace HNc := Lib.hid ((hb.block _ (Array.getElem?_eq_some_iff.1 HNc.out).1).trans HNc.out)
  replace HNq := Lib.hid ((hb.block _ (Array.getElem?_eq_some_iff.1 HNq.out).1).trans HNq.out)
  replace HNr := Lib.hid ((hb.block _ (Array.getElem?_eq_some_iff.1 HNr.out).1).trans HNr.out)
  clear hb
  by_cases h0 : E = 0
  case neg =>
    have gE : (E == 0) = false := by simpa using h0
    have HN : Hid (RL = 0 ∧ RH = 0 ∧ RE = E) := Lib.hid ⟨by rw [HL.out, if_neg h0], by rw [HH.out, if_neg h0], by rw [HE.out, if_neg h0]⟩
    clear h0
    have zr0 := cellH HNr.out 0
    have zr1 := cellH HNr.out 1
    have zr2 := cellH HNr.out 2
    simp only [List.getElem?_toArray, List.getElem?_cons_zero, List.getElem?_cons_succ] at zr0 zr1 zr2
    have zfr := freeH HNr.out
    go_wp2_with fail
    obtain ⟨y1, y2⟩ := set3 HNr.out HB.out (by omega) (.int .i64 0) (.int .i64 0) (.int .i64 E)
    refine bodyPost_ret (results_cell_row Tryz.results79 _ _ (w.heap.size + 1 + 1) 145 _ (0, 0) _ rfl y1 Tryz.underlying145 rfl info_kn3) rfl ?_
    exact ⟨by rw [HN.out.1, HN.out.2.1, HN.out.2.2], y2⟩
  subst h0
  have zc0 := cellH HNc.out 0
  have zc1 := cellH HNc.out 1
  have zq0 := cellH HNq.out 0
  have zq1 := cellH HNq.out 1
  have zq2 := cellH HNq.out 2
  have zq3 := cellH HNq.out 3
  have zr0 := cellH HNr.out 0
  have zr1 := cellH HNr.out 1
  have zr2 := cellH HNr.out 2
  simp only [List.getElem?_toArray, List.getElem?_cons_zero, List.getElem?_cons_succ] at zc0 zc1 zq0 zq1 zq2 zq3 zr0 zr1 zr2
  have zfr := freeH HNr.out
  go_wp2_with fail
  refine (H2.out _).mono ?_
  rintro e w2 ⟨rfl, rfl⟩
  go_wp2_with fail
  refine (H3.out _).mono ?_
  rintro e w3 ⟨rfl, rfl⟩
  cases b1
  · skip
    have HN : Hid (RL = 0 ∧ RH = 0 ∧ RE = 1) := Lib.hid ⟨by rw [HL.out]; rfl, by rw [HH.out]; rfl, by rw [HE.out]; rfl⟩
    go_wp2_with fail
    obtain ⟨y1, y2⟩ := set3 HNr.out HB.out (by omega) (.int .i64 0) (.int .i64 0) (.int .i64 1)
    refine bodyPost_ret (results_cell_row Tryz.results79 _ _ (w.heap.size + 1 + 1) 145 _ (0, 0) _ rfl y1 Tryz.underlying145 rfl info_kn3) rfl ?_
    exact ⟨by rw [HN.out.1, HN.out.2.1, HN.out.2.2], y2⟩
  cases b2
  · skip
    have HN : Hid (RL = 0 ∧ RH = 0 ∧ RE = 1) := Lib.hid ⟨by rw [HL.out]; rfl, by rw [HH.out]; rfl, by rw [HE.out]; rfl⟩
    go_wp2_with fail
    obtain ⟨y1, y2⟩ := set3 HNr.out HB.out (by omega) (.int .i64 0) (.int .i64 0) (.int .i64 1)
    refine bodyPost_ret (results_cell_row Tryz.results79 _ _ (w.heap.size + 1 + 1) 145 _ (0, 0) _ rfl y1 Tryz.underlying145 rfl info_kn3) rfl ?_
    exact ⟨by rw [HN.out.1, HN.out.2.1, HN.out.2.2], y2⟩
  have HN : Hid (RL = YL ∧ RH = YH ∧ RE = YE) := Lib.hid ⟨by rw [HL.out]; rfl, by rw [HH.out]; rfl, by rw [HE.out]; rfl⟩
  go_wp2_with fail
  refine (HZE.out _ HB.out).mono ?_
  rintro e w4 ⟨rfl, hb⟩
  clear zc0 zc1 zq0 zq1 zq2 zq3 zr0 zr1 zr2 zfr
  replace HB := Lib.hid (HB.out.trans (hb.mono HB.out.size))
  replace HNc := Lib.hid ((hb.block _ (Array.getElem?_eq_some_iff.1 HNc.out).1).trans HNc.out)
  replace HNq := Lib.hid ((hb.block _ (Array.getElem?_eq_some_iff.1 HNq.out).1).trans HNq.out)
  replace HNr := Lib.hid ((hb.block _ (Array.getElem?_eq_some_iff.1 HNr.out).1).trans HNr.out)
  clear hb
  have zr0 := cellH HNr.out 0
  have zr1 := cellH HNr.out 1
  have zr2 := cellH HNr.out 2
  simp only [List.getElem?_toArray, List.getElem?_cons_zero, List.getElem?_cons_succ] at zr0 zr1 zr2
  have zfr := freeH HNr.out
  go_wp2_with fail
  obtain ⟨y1, y2⟩ := set3 HNr.out HB.out (by omega) (.int .i64 YL) (.int .i64 YH) (.int .i64 YE)
  refine bodyPost_ret (results_cell_row Tryz.results79 _ _ (w.heap.size + 1 + 1) 145 _ (0, 0) _ rfl y1 Tryz.underlying145 rfl info_kn3) rfl ?_
  exact ⟨by rw [HN.out.1, HN.out.2.1, HN.out.2.2], y2⟩
end Go.Proofs.YtebdboacmeafaaaGreat
