/- Package firetowerref05: Shows, asked. -/
import Derived.Test.YtpaihnjgpookjaaGreatCCB
import Derived.Test.YtpaihnjgpookjaaGreatCF6
import Derived.Test.YtpaihnjgpookjaaGreatCAA
set_option linter.unusedVariables false
set_option linter.unusedSimpArgs false
namespace Go.Proofs.YtpaihnjgpookjaaGreat
open Go Go.RowKit

theorem ceil_neg {A D : Int} (h : 1 ≤ D) : -(-A / D) = (A + D - 1) / D := by
  have h1 : D * (-A / D) + -A % D = -A := Int.mul_ediv_add_emod (-A) D
  have h2 := Int.emod_nonneg (-A) (by omega : D ≠ 0)
  have h3 := Int.emod_lt_of_pos (-A) (by omega : 0 < D)
  obtain ⟨q, hq⟩ : ∃ q, -A / D = q := ⟨_, rfl⟩
  obtain ⟨r, hr⟩ : ∃ r, -A % D = r := ⟨_, rfl⟩
  rw [hq, hr] at h1
  rw [hr] at h2 h3
  rw [hq]
  have e : A + D - 1 = (D - 1 - r) + (-q) * D := by
    have : -q * D = -(D * q) := by rw [Int.neg_mul, Int.mul_comm]
    omega
  rw [e, Int.add_mul_ediv_right _ _ (by omega), Int.ediv_eq_zero_of_lt (by omega) (by omega), Int.zero_add]
theorem sm_mul {x D : Int} (hx : -400 ≤ x ∧ x ≤ 400) (hD : 1 ≤ D ∧ D ≤ 48) : -19200 ≤ x * D ∧ x * D ≤ 19200 := by
  have h1 := Int.mul_le_mul_of_nonneg_right hx.1 (by omega : 0 ≤ D)
  have h2 := Int.mul_le_mul_of_nonneg_right hx.2 (by omega : 0 ≤ D)
  omega
set_option maxRecDepth 100000 in
set_option maxHeartbeats 8000000 in
theorem pShows_any (a b c d z s : Int) (w : World) :
    Calls Tryz.prog 14 #[.agg #[.int .i64 a, .int .i64 b], .agg #[.int .i64 c, .int .i64 d], .int .i64 z, .int .i64 s] w fun e w' => e = .returned (.tuple #[.agg #[.int .i64 (shLo a b c d z s), .int .i64 (shHi a b c d z s)], .bool (shB a b c d z s)]) ∧ Below w.heap.size w w' := by
  have H1 := Lib.hid (fun w' => pbearing_any a b c d w')
  have H2 := Lib.hid (fun w' => pwithin_any z (-300) 300 w')
  have H3 := Lib.hid (fun w' => pwithin_any s 1 100 w')
  have HF := Lib.hid (fun A D w' h1 h2 => pfloor_any A D w' h1 h2)
  have HOK : Hid (brB a b c d = true → _) := Lib.hid (fun h => (show (1 ≤ twD (c - a) (d - b) ∧ twD (c - a) (d - b) ≤ 48) ∧ (0 ≤ twN (c - a) (d - b) ∧ twN (c - a) (d - b) ≤ 172800) from by
    obtain ⟨k1, k2, k3⟩ := brB_ok h
    obtain ⟨t1, t2, t3, t4, _⟩ := tw_ok (x := c - a) (y := d - b) (by omega) (by omega) k3
    omega))
  have HV0 : Hid (shB a b c d z s = false → shLo a b c d z s = 0 ∧ shHi a b c d z s = 0) := Lib.hid (fun h => by unfold shLo shHi; rw [h]; exact ⟨rfl, rfl⟩)
  have HV1 : Hid (brB a b c d = true → shB a b c d z s = true → shLo a b c d z s = (twN (c - a) (d - b) + twD (c - a) (d - b) - 1) / twD (c - a) (d - b) + z - s ∧ shHi a b c d z s = twN (c - a) (d - b) / twD (c - a) (d - b) + z + s) := Lib.hid (fun h0 h => by unfold shLo shHi brUp brDn; rw [if_pos h, if_pos h, if_pos h0, if_pos h0]; exact ⟨rfl, rfl⟩)
  have HB5 : Hid (shB a b c d z s = (brB a b c d && ciB z (-300) 300 && ciB s 1 100)) := Lib.hid rfl
  have HZR : Hid (ciB z (-300) 300 = true → -300 ≤ z ∧ z ≤ 300) := Lib.hid ci_iff.1
  have HSR : Hid (ciB s 1 100 = true → 1 ≤ s ∧ s ≤ 100) := Lib.hid ci_iff.1
  have HND : Hid (brB a b c d = true → (if brB a b c d = true then twN (c - a) (d - b) else 0) = twN (c - a) (d - b) ∧ (if brB a b c d = true then twD (c - a) (d - b) else 0) = twD (c - a) (d - b)) := Lib.hid (fun h => by rw [if_pos h, if_pos h]; exact ⟨rfl, rfl⟩)
  obtain ⟨N, hN⟩ : ∃ N, (if brB a b c d = true then twN (c - a) (d - b) else 0) = N := ⟨_, rfl⟩
  obtain ⟨D, hD⟩ : ∃ N, (if brB a b c d = true then twD (c - a) (d - b) else 0) = N := ⟨_, rfl⟩
  obtain ⟨LO, hLO⟩ : ∃ N, shLo a b c d z s = N := ⟨_, rfl⟩
  obtain ⟨HI, hHI⟩ : ∃ N, shHi a b c d z s = N := ⟨_, rfl⟩
  obtain ⟨B, hB⟩ : ∃ N, shB a b c d z s = N := ⟨_, rfl⟩
  obtain ⟨ok, hok⟩ : ∃ N, brB a b c d = N := ⟨_, rfl⟩
  obtain ⟨zb, hzb⟩ : ∃ N, ciB z (-300) 300 = N := ⟨_, rfl⟩
  obtain ⟨sb, hsb⟩ : ∃ N, ciB s 1 100 = N := ⟨_, rfl⟩
  obtain ⟨tn, htn⟩ : ∃ N, twN (c - a) (d - b) = N := ⟨_, rfl⟩
  obtain ⟨td, htd⟩ : ∃ N, twD (c - a) (d - b) = N := ⟨_, rfl⟩
  rw [hN, hD, hok] at H1
  rw [hN, hD, hok, htn, htd] at HND
  rw [htn, htd, hok] at HOK
  rw [hzb] at H2 HB5 HZR
  rw [hsb] at H3 HB5 HSR
  rw [hok, hB] at HB5
  rw [hB, hLO, hHI] at HV0
  rw [hok, hB, hLO, hHI, htn, htd] at HV1
  rw [hLO, hHI, hB]
  clear hN hD hLO hHI hB hok hzb hsb htn htd
  obtain ⟨x0, x1, x2, xlt, xb⟩ := cells3 w #[.int .i64 a, .int .i64 b] #[.int .i64 c, .int .i64 d] #[.int .i64 0, .int .i64 0] 46 46 48 (Below.refl _ _)
  have HNp : Hid ((((w.alloc (.cells #[.int .i64 a, .int .i64 b] 46)).alloc (.cells #[.int .i64 c, .int .i64 d] 46)).alloc (.cells #[.int .i64 0, .int .i64 0] 48)).heap[w.heap.size]? = some (.cells #[.int .i64 a, .int .i64 b] 46 (0, 0))) := Lib.hid x0
  have HNq : Hid ((((w.alloc (.cells #[.int .i64 a, .int .i64 b] 46)).alloc (.cells #[.int .i64 c, .int .i64 d] 46)).alloc (.cells #[.int .i64 0, .int .i64 0] 48)).heap[w.heap.size + 1]? = some (.cells #[.int .i64 c, .int .i64 d] 46 (0, 0))) := Lib.hid x1
  have HNr : Hid ((((w.alloc (.cells #[.int .i64 a, .int .i64 b] 46)).alloc (.cells #[.int .i64 c, .int .i64 d] 46)).alloc (.cells #[.int .i64 0, .int .i64 0] 48)).heap[w.heap.size + 1 + 1]? = some (.cells #[.int .i64 0, .int .i64 0] 48 (0, 0))) := Lib.hid x2
  have HB : Hid (Below w.heap.size w (((w.alloc (.cells #[.int .i64 a, .int .i64 b] 46)).alloc (.cells #[.int .i64 c, .int .i64 d] 46)).alloc (.cells #[.int .i64 0, .int .i64 0] 48))) := Lib.hid xb
  obtain ⟨Z, hZ⟩ : ∃ Z, (((w.alloc (.cells #[.int .i64 a, .int .i64 b] 46)).alloc (.cells #[.int .i64 c, .int .i64 d] 46)).alloc (.cells #[.int .i64 0, .int .i64 0] 48)) = Z := ⟨_, rfl⟩
  rw [hZ] at HB HNp HNq HNr
  have HZ := Lib.hid hZ
  clear hZ xlt xb x0 x1 x2
  go_enter Tryz.func14, Tryz.ntmps14
  go_wp2_with fail
  rw [HZ.out]
  refine (H1.out _).mono ?_
  rintro e w1 ⟨rfl, hb⟩
  replace HB := Lib.hid (HB.out.trans (hb.mono HB.out.size))
  replace HNp := Lib.hid ((hb.block _ (Array.getElem?_eq_some_iff.1 HNp.out).1).trans HNp.out)
  replace HNq := Lib.hid ((hb.block _ (Array.getElem?_eq_some_iff.1 HNq.out).1).trans HNq.out)
  replace HNr := Lib.hid ((hb.block _ (Array.getElem?_eq_some_iff.1 HNr.out).1).trans HNr.out)
  clear hb
  have hAlc : Below w1.heap.size w1 (w1.alloc (.cells #[.int .i64 N, .int .i64 D] 98)) := (Below.refl _ w1).alloc (Nat.le_refl _) _
  have HSk : Hid (w.heap.size ≤ w1.heap.size) := Lib.hid HB.out.size
  have HNk : Hid ((w1.alloc (.cells #[.int .i64 N, .int .i64 D] 98)).heap[w1.heap.size]? = some (.cells #[.int .i64 N, .int .i64 D] 98 (0, 0))) := Lib.hid (heap_alloc_new _ _)
  replace HB := Lib.hid (HB.out.trans (hAlc.mono HB.out.size))
  have HXp_k : Hid (w.heap.size ≠ w1.heap.size) := Lib.hid (Nat.ne_of_lt (Array.getElem?_eq_some_iff.1 HNp.out).1)
  have HXq_k : Hid (w.heap.size + 1 ≠ w1.heap.size) := Lib.hid (Nat.ne_of_lt (Array.getElem?_eq_some_iff.1 HNq.out).1)
  have HXr_k : Hid (w.heap.size + 1 + 1 ≠ w1.heap.size) := Lib.hid (Nat.ne_of_lt (Array.getElem?_eq_some_iff.1 HNr.out).1)
  replace HNp := Lib.hid ((hAlc.block _ (Array.getElem?_eq_some_iff.1 HNp.out).1).trans HNp.out)
  replace HNq := Lib.hid ((hAlc.block _ (Array.getElem?_eq_some_iff.1 HNq.out).1).trans HNq.out)
  replace HNr := Lib.hid ((hAlc.block _ (Array.getElem?_eq_some_iff.1 HNr.out).1).trans HNr.out)
  obtain ⟨ak, hak⟩ : ∃ qq, w1.alloc (.cells #[.int .i64 N, .int .i64 D] 98) = qq := ⟨_, rfl⟩
  obtain ⟨bkk, hbk⟩ : ∃ qq, w1.heap.size = qq := ⟨_, rfl⟩
  rw [hak] at HB HNk HNp HNq HNr
  rw [hbk] at HNk HSk HXp_k HXq_k HXr_k
  clear hAlc
  have zr0 := cellH HNr.out 0
  have zr1 := cellH HNr.out 1
  have zk0 := cellH HNk.out 0
  have zk1 := cellH HNk.out 1
  simp only [List.getElem?_toArray, List.getElem?_cons_zero, List.getElem?_cons_succ] at zr0 zr1 zk0 zk1
  have zfr := freeH HNr.out
  go_wp2_with fail
  refine (H2.out _).mono ?_
  rintro e w2 ⟨rfl, rfl⟩
  try clear hak hbk
  go_wp2_with fail
  refine (H3.out _).mono ?_
  rintro e w3 ⟨rfl, rfl⟩
  cases ok
  · skip
    have HB6 : Hid (B = false) := Lib.hid (by rw [HB5.out]; rfl)
    have HN : Hid (LO = 0 ∧ HI = 0 ∧ B = false) := Lib.hid ⟨(HV0.out HB6.out).1, (HV0.out HB6.out).2, HB6.out⟩
    go_wp2_with fail
    obtain ⟨y1, y2⟩ := set2 HNr.out HB.out (by omega) (.int .i64 0) (.int .i64 0)
    refine bodyPost_ret (res_ct Tryz.results14 _ _ (w.heap.size + 1 + 1) 48 _ (0, 0) _ rfl y1 Tryz.underlying48 rfl info_sp2) rfl ?_
    exact ⟨by rw [HN.out.1, HN.out.2.1, HN.out.2.2]; rfl, y2⟩
  cases zb
  · skip
    have HB6 : Hid (B = false) := Lib.hid (by rw [HB5.out]; rfl)
    have HN : Hid (LO = 0 ∧ HI = 0 ∧ B = false) := Lib.hid ⟨(HV0.out HB6.out).1, (HV0.out HB6.out).2, HB6.out⟩
    go_wp2_with fail
    obtain ⟨y1, y2⟩ := set2 HNr.out HB.out (by omega) (.int .i64 0) (.int .i64 0)
    refine bodyPost_ret (res_ct Tryz.results14 _ _ (w.heap.size + 1 + 1) 48 _ (0, 0) _ rfl y1 Tryz.underlying48 rfl info_sp2) rfl ?_
    exact ⟨by rw [HN.out.1, HN.out.2.1, HN.out.2.2]; rfl, y2⟩
  cases sb
  · skip
    have HB6 : Hid (B = false) := Lib.hid (by rw [HB5.out]; rfl)
    have HN : Hid (LO = 0 ∧ HI = 0 ∧ B = false) := Lib.hid ⟨(HV0.out HB6.out).1, (HV0.out HB6.out).2, HB6.out⟩
    go_wp2_with fail
    obtain ⟨y1, y2⟩ := set2 HNr.out HB.out (by omega) (.int .i64 0) (.int .i64 0)
    refine bodyPost_ret (res_ct Tryz.results14 _ _ (w.heap.size + 1 + 1) 48 _ (0, 0) _ rfl y1 Tryz.underlying48 rfl info_sp2) rfl ?_
    exact ⟨by rw [HN.out.1, HN.out.2.1, HN.out.2.2]; rfl, y2⟩
  have HB6 : Hid (B = true) := Lib.hid (by rw [HB5.out]; rfl)
  have hz := HZR.out rfl
  have hs := HSR.out rfl
  obtain ⟨hd, hn⟩ := HOK.out rfl
  obtain ⟨n1, n2⟩ := HND.out rfl
  have HV2 := Lib.hid (HV1.out rfl HB6.out)
  rw [← n1, ← n2] at HV2
  rw [← n2] at hd
  rw [← n1] at hn
  clear n1 n2 HND HOK HV1 HV0
  have m1 := sm_mul (x := z - s) (D := D) (by omega) hd
  have m2 := sm_mul (x := z + s) (D := D) (by omega) hd
  have HE1 : Hid (-(-(N + (z - s) * D) / D) = LO) := Lib.hid (by
    rw [HV2.out.1, ceil_neg hd.1, (by omega : N + (z - s) * D + D - 1 = (N + D - 1) + (z - s) * D), Int.add_mul_ediv_right _ _ (by omega)]
    omega)
  have HE2 : Hid ((N + (z + s) * D) / D = HI) := Lib.hid (by
    rw [HV2.out.2, Int.add_mul_ediv_right _ _ (by omega)]
    omega)
  have HF1 := Lib.hid (fun w' => HF.out (-(N + (z - s) * D)) D w' (by omega) (by omega))
  have HF2 := Lib.hid (fun w' => HF.out (N + (z + s) * D) D w' (by omega) (by omega))
  have hq1 : -175000 ≤ -(N + (z - s) * D) / D := Int.le_ediv_of_mul_le (by omega) (by
    have h1 := Int.mul_le_mul_of_nonneg_left hd.1 (by omega : (0 : Int) ≤ 175000)
    have : -175000 * D = -(175000 * D) := by omega
    have h3 : -(N + (z - s) * D) ≥ -(172800 + 400 * D) := by
      have := Int.mul_le_mul_of_nonneg_right (by omega : z - s ≤ 400) (by omega : 0 ≤ D)
      omega
    have h4 : 172800 * 1 ≤ 172800 * D := Int.mul_le_mul_of_nonneg_left hd.1 (by omega)
    omega)
  have hq2 : -(N + (z - s) * D) / D ≤ 19200 := by
    have h1 : -(N + (z - s) * D) / D ≤ 19200 / D := Int.ediv_le_ediv (by omega) (by omega)
    have h2 : (19200 : Int) / D ≤ 19200 := Int.ediv_le_self _ (by omega)
    omega
  obtain ⟨Q1, hQ1⟩ : ∃ q, -(N + (z - s) * D) / D = q := ⟨_, rfl⟩
  obtain ⟨Q2, hQ2⟩ : ∃ q, (N + (z + s) * D) / D = q := ⟨_, rfl⟩
  rw [hQ1] at HF1 HE1 hq1 hq2
  rw [hQ2] at HF2 HE2
  clear hQ1 hQ2
  have e1 : IntKind.i64.wrap (z - s) = z - s := IntWalk.i64_in _ (by omega)
  have e2 : IntKind.i64.wrap (z + s) = z + s := IntWalk.i64_in _ (by omega)
  obtain ⟨M1, hM1⟩ : ∃ q, (z - s) * D = q := ⟨_, rfl⟩
  obtain ⟨M2, hM2⟩ : ∃ q, (z + s) * D = q := ⟨_, rfl⟩
  rw [hM1] at m1 HF1
  rw [hM2] at m2 HF2
  have e3 : IntKind.i64.wrap ((z - s) * D) = M1 := by rw [hM1]; exact IntWalk.i64_in _ (by omega)
  have e4 : IntKind.i64.wrap ((z + s) * D) = M2 := by rw [hM2]; exact IntWalk.i64_in _ (by omega)
  have e5 : IntKind.i64.wrap (N + M1) = N + M1 := IntWalk.i64_in _ (by omega)
  have e6 : IntKind.i64.wrap (N + M2) = N + M2 := IntWalk.i64_in _ (by omega)
  have e7 : IntKind.i64.wrap (-(N + M1)) = -(N + M1) := IntWalk.i64_in _ (by omega)
  have e8 : IntKind.i64.wrap (-Q1) = -Q1 := IntWalk.i64_in _ (by omega)
  clear hM1 hM2 m1 m2 hz hs hn hq1 hq2
  go_wp2_with fail
  refine (HF1.out _).mono ?_
  rintro e w4 ⟨rfl, rfl⟩
  go_wp2_with fail
  refine (HF2.out _).mono ?_
  rintro e w5 ⟨rfl, rfl⟩
  go_wp2_with fail
  obtain ⟨y1, y2⟩ := set2 HNr.out HB.out (by omega) (.int .i64 (-Q1)) (.int .i64 Q2)
  refine bodyPost_ret (res_ct Tryz.results14 _ _ (w.heap.size + 1 + 1) 48 _ (0, 0) _ rfl y1 Tryz.underlying48 rfl info_sp2) rfl ?_
  exact ⟨by rw [HB6.out, ← HE1.out, ← HE2.out]; rfl, y2⟩
def asB (rs rl : Int) : Bool := ciB rs 0 3599 && ciB rl 1 100
def asE (cs : List Ci) (ks : List Ck) (rc rt rs rl : Int) : Int := if ccE cs ks = 0 then (if asB rs rl = true then yrE cs ks rc rt else 1) else ccE cs ks
def asL (cs : List Ci) (ks : List Ck) (rc rt rs rl : Int) : Int := if ccE cs ks = 0 then (if asB rs rl = true then yrL cs ks rc rt else 0) else 0
def asH (cs : List Ci) (ks : List Ck) (rc rt rs rl : Int) : Int := if ccE cs ks = 0 then (if asB rs rl = true then yrH cs ks rc rt else 0) else 0
set_option maxRecDepth 100000 in
set_option maxHeartbeats 8000000 in
theorem asked_any (v1 v2 : Value) (cs : List Ci) (ks : List Ck) (rc rt rs rl : Int) (w : World) (hv1 : CiRow w v1 cs) (hv2 : CkRow w v2 ks) (hl1 : cs.length ≤ 9223372036854775807) (hl2 : ks.length ≤ 9223372036854775807) :
    Calls Tryz.prog 41 #[.agg #[v1, v2], .agg #[.int .i64 rc, .int .i64 rt, .int .i64 rs, .int .i64 rl]] w fun e w' => e = .returned (.agg #[.int .i64 (asL cs ks rc rt rs rl), .int .i64 (asH cs ks rc rt rs rl), .int .i64 (asE cs ks rc rt rs rl)]) ∧ Below w.heap.size w w' := by
  obtain ⟨a1, c1, rfl, _⟩ := hv1.form
  obtain ⟨a2, c2, rfl, _⟩ := hv2.form
  have HCH := Lib.hid (fun w' (h : Below w.heap.size w w') => pCheck_any (.slice a1 cs.length c1) (.slice a2 ks.length c2) cs ks w' (hv1.keep h) (hv2.keep h) hl1 hl2)
  have HZE := Lib.hid (fun w' (h : Below w.heap.size w w') => rZero_any (.slice a1 cs.length c1) (.slice a2 ks.length c2) cs ks rc rt w' (hv1.keep h) (hv2.keep h) hl1 hl2)
  have H2 := Lib.hid (fun w' => pwithin_any rs 0 3599 w')
  have H3 := Lib.hid (fun w' => pwithin_any rl 1 100 w')
  have HE : Hid (asE cs ks rc rt rs rl = if ccE cs ks = 0 then (if (ciB rs 0 3599 && ciB rl 1 100) = true then yrE cs ks rc rt else 1) else ccE cs ks) := Lib.hid rfl
  have HL : Hid (asL cs ks rc rt rs rl = if ccE cs ks = 0 then (if (ciB rs 0 3599 && ciB rl 1 100) = true then yrL cs ks rc rt else 0) else 0) := Lib.hid rfl
  have HH : Hid (asH cs ks rc rt rs rl = if ccE cs ks = 0 then (if (ciB rs 0 3599 && ciB rl 1 100) = true then yrH cs ks rc rt else 0) else 0) := Lib.hid rfl
  obtain ⟨RE, hRE⟩ : ∃ N, asE cs ks rc rt rs rl = N := ⟨_, rfl⟩
  obtain ⟨RL, hRL⟩ : ∃ N, asL cs ks rc rt rs rl = N := ⟨_, rfl⟩
  obtain ⟨RH, hRH⟩ : ∃ N, asH cs ks rc rt rs rl = N := ⟨_, rfl⟩
  obtain ⟨E, hE⟩ : ∃ N, ccE cs ks = N := ⟨_, rfl⟩
  obtain ⟨YE, hYE⟩ : ∃ N, yrE cs ks rc rt = N := ⟨_, rfl⟩
  obtain ⟨YL, hYL⟩ : ∃ N, yrL cs ks rc rt = N := ⟨_, rfl⟩
  obtain ⟨YH, hYH⟩ : ∃ N, yrH cs ks rc rt = N := ⟨_, rfl⟩
  obtain ⟨b1, hb1⟩ : ∃ N, ciB rs 0 3599 = N := ⟨_, rfl⟩
  obtain ⟨b2, hb2⟩ : ∃ N, ciB rl 1 100 = N := ⟨_, rfl⟩
  rw [hRE, hE, hb1, hb2, hYE] at HE
  rw [hRL, hE, hb1, hb2, hYL] at HL
  rw [hRH, hE, hb1, hb2, hYH] at HH
  rw [hE] at HCH
  rw [hYE, hYL, hYH] at HZE
  rw [hb1] at H2
  rw [hb2] at H3
  rw [hRE, hRL, hRH]
  clear hRE hRL hRH hE hYE hYL hYH hb1 hb2 hv1 hv2
  obtain ⟨x0, x1, x2, xlt, xb⟩ := cells3 w #[.slice a1 cs.length c1, .slice a2 ks.length c2] #[.int .i64 rc, .int .i64 rt, .int .i64 rs, .int .i64 rl] #[.int .i64 0, .int .i64 0, .int .i64 0] 25 44 107 (Below.refl _ _)
  have HNc : Hid ((((w.alloc (.cells #[.slice a1 cs.length c1, .slice a2 ks.length c2] 25)).alloc (.cells #[.int .i64 rc, .int .i64 rt, .int .i64 rs, .int .i64 rl] 44)).alloc (.cells #[.int .i64 0, .int .i64 0, .int .i64 0] 107)).heap[w.heap.size]? = some (.cells #[.slice a1 cs.length c1, .slice a2 ks.length c2] 25 (0, 0))) := Lib.hid x0
  have HNq : Hid ((((w.alloc (.cells #[.slice a1 cs.length c1, .slice a2 ks.length c2] 25)).alloc (.cells #[.int .i64 rc, .int .i64 rt, .int .i64 rs, .int .i64 rl] 44)).alloc (.cells #[.int .i64 0, .int .i64 0, .int .i64 0] 107)).heap[w.heap.size + 1]? = some (.cells #[.int .i64 rc, .int .i64 rt, .int .i64 rs, .int .i64 rl] 44 (0, 0))) := Lib.hid x1
  have HNr : Hid ((((w.alloc (.cells #[.slice a1 cs.length c1, .slice a2 ks.length c2] 25)).alloc (.cells #[.int .i64 rc, .int .i64 rt, .int .i64 rs, .int .i64 rl] 44)).alloc (.cells #[.int .i64 0, .int .i64 0, .int .i64 0] 107)).heap[w.heap.size + 1 + 1]? = some (.cells #[.int .i64 0, .int .i64 0, .int .i64 0] 107 (0, 0))) := Lib.hid x2
  have HB : Hid (Below w.heap.size w (((w.alloc (.cells #[.slice a1 cs.length c1, .slice a2 ks.length c2] 25)).alloc (.cells #[.int .i64 rc, .int .i64 rt, .int .i64 rs, .int .i64 rl] 44)).alloc (.cells #[.int .i64 0, .int .i64 0, .int .i64 0] 107))) := Lib.hid xb
  obtain ⟨Z, hZ⟩ : ∃ Z, (((w.alloc (.cells #[.slice a1 cs.length c1, .slice a2 ks.length c2] 25)).alloc (.cells #[.int .i64 rc, .int .i64 rt, .int .i64 rs, .int .i64 rl] 44)).alloc (.cells #[.int .i64 0, .int .i64 0, .int .i64 0] 107)) = Z := ⟨_, rfl⟩
  rw [hZ] at HB HNc HNq HNr
  have HZ := Lib.hid hZ
  clear hZ xlt xb x0 x1 x2
  go_enter Tryz.func41, Tryz.ntmps41
  go_wp2_with fail
  rw [HZ.out]
  refine (HCH.out _ HB.out).mono ?_
  rintro e w1 ⟨rfl, hb⟩
  replace HB := Lib.hid (HB.out.trans (hb.mono HB.out.size))
  replace HNc := Lib.hid ((hb.block _ (Array.getElem?_eq_some_iff.1 HNc.out).1).trans HNc.out)
  replace HNq := Lib.hid ((hb.block _ (Array.getElem?_eq_some_iff.1 HNq.out).1).trans HNq.out)
  replace HNr := Lib.hid ((hb.block _ (Array.getElem?_eq_some_iff.1 HNr.out).1).trans HNr.out)
  clear hb
  by_cases h0 : E = 0
  case neg =>
    have gE : (E == 0) = false := by simpa using h0
    have HN : Hid (RL = 0 ∧ RH = 0 ∧ RE = E) := Lib.hid ⟨by rw [HL.out, if_neg h0], by rw [HH.out, if_neg h0], by rw [HE.out, if_neg h0]⟩
    clear h0
    have zr0 := cellH HNr.out 0
    have zr1 := cellH HNr.out 1
    have zr2 := cellH HNr.out 2
    simp only [List.getElem?_toArray, List.getElem?_cons_zero, List.getElem?_cons_succ] at zr0 zr1 zr2
    have zfr := freeH HNr.out
    go_wp2_with fail
    obtain ⟨y1, y2⟩ := set3 HNr.out HB.out (by omega) (.int .i64 0) (.int .i64 0) (.int .i64 E)
    refine bodyPost_ret (results_cell_row Tryz.results41 _ _ (w.heap.size + 1 + 1) 107 _ (0, 0) _ rfl y1 Tryz.underlying107 rfl info_kn3) rfl ?_
    exact ⟨by rw [HN.out.1, HN.out.2.1, HN.out.2.2], y2⟩
  subst h0
  have zc0 := cellH HNc.out 0
  have zc1 := cellH HNc.out 1
  have zq0 := cellH HNq.out 0
  have zq1 := cellH HNq.out 1
  have zq2 := cellH HNq.out 2
  have zq3 := cellH HNq.out 3
  have zr0 := cellH HNr.out 0
  have zr1 := cellH HNr.out 1
  have zr2 := cellH HNr.out 2
  simp only [List.getElem?_toArray, List.getElem?_cons_zero, List.getElem?_cons_succ] at zc0 zc1 zq0 zq1 zq2 zq3 zr0 zr1 zr2
  have zfr := freeH HNr.out
  go_wp2_with fail
  refine (H2.out _).mono ?_
  rintro e w2 ⟨rfl, rfl⟩
  go_wp2_with fail
  refine (H3.out _).mono ?_
  rintro e w3 ⟨rfl, rfl⟩
  cases b1
  · skip
    have HN : Hid (RL = 0 ∧ RH = 0 ∧ RE = 1) := Lib.hid ⟨by rw [HL.out]; rfl, by rw [HH.out]; rfl, by rw [HE.out]; rfl⟩
    go_wp2_with fail
    obtain ⟨y1, y2⟩ := set3 HNr.out HB.out (by omega) (.int .i64 0) (.int .i64 0) (.int .i64 1)
    refine bodyPost_ret (results_cell_row Tryz.results41 _ _ (w.heap.size + 1 + 1) 107 _ (0, 0) _ rfl y1 Tryz.underlying107 rfl info_kn3) rfl ?_
    exact ⟨by rw [HN.out.1, HN.out.2.1, HN.out.2.2], y2⟩
  cases b2
  · skip
    have HN : Hid (RL = 0 ∧ RH = 0 ∧ RE = 1) := Lib.hid ⟨by rw [HL.out]; rfl, by rw [HH.out]; rfl, by rw [HE.out]; rfl⟩
    go_wp2_with fail
    obtain ⟨y1, y2⟩ := set3 HNr.out HB.out (by omega) (.int .i64 0) (.int .i64 0) (.int .i64 1)
    refine bodyPost_ret (results_cell_row Tryz.results41 _ _ (w.heap.size + 1 + 1) 107 _ (0, 0) _ rfl y1 Tryz.underlying107 rfl info_kn3) rfl ?_
    exact ⟨by rw [HN.out.1, HN.out.2.1, HN.out.2.2], y2⟩
  have HN : Hid (RL = YL ∧ RH = YH ∧ RE = YE) := Lib.hid ⟨by rw [HL.out]; rfl, by rw [HH.out]; rfl, by rw [HE.out]; rfl⟩
  go_wp2_with fail
  refine (HZE.out _ HB.out).mono ?_
  rintro e w4 ⟨rfl, hb⟩
  clear zc0 zc1 zq0 zq1 zq2 zq3 zr0 zr1 zr2 zfr
  replace HB := Lib.hid (HB.out.trans (hb.mono HB.out.size))
  replace HNc := Lib.hid ((hb.block _ (Array.getElem?_eq_some_iff.1 HNc.out).1).trans HNc.out)
  replace HNq := Lib.hid ((hb.block _ (Array.getElem?_eq_some_iff.1 HNq.out).1).trans HNq.out)
  replace HNr := Lib.hid ((hb.block _ (Array.getElem?_eq_some_iff.1 HNr.out).1).trans HNr.out)
  clear hb
  have zr0 := cellH HNr.out 0
  have zr1 := cellH HNr.out 1
  have zr2 := cellH HNr.out 2
  simp only [List.getElem?_toArray, List.getElem?_cons_zero, List.getElem?_cons_succ] at zr0 zr1 zr2
  have zfr := freeH HNr.out
  go_wp2_with fail
  obtain ⟨y1, y2⟩ := set3 HNr.out HB.out (by omega) (.int .i64 YL) (.int .i64 YH) (.int .i64 YE)
  refine bodyPost_ret (results_cell_row Tryz.results41 _ _ (w.heap.size + 1 + 1) 107 _ (0, 0) _ rfl y1 Tryz.underlying107 rfl info_kn3) rfl ?_
  exact ⟨by rw [HN.out.1, HN.out.2.1, HN.out.2.2], y2⟩
end Go.Proofs.YtpaihnjgpookjaaGreat
