/- Package firetowerref05: Wedge. -/
import Derived.Test.YtebdboacmeafaaaGreatCG1
import Derived.Test.YtebdboacmeafaaaGreatCDA
import Derived.Test.YtebdboacmeafaaaGreatCF9
set_option linter.unusedVariables false
set_option linter.unusedSimpArgs false
namespace Go.Proofs.YtebdboacmeafaaaGreat
open Go Go.RowKit

theorem info_re3 : (Tryz.prog.info? 133).map (·.size) = some 3 := by kernel_rfl
/-- The reference's bounds and refusal are those of the dial. -/
theorem zy_eq (cs : List Ci) (ks : List Ck) (id t : Int) : zrE cs ks id t = yrE cs ks id t ∧ (yrE cs ks id t = 0 → zrL cs ks id t = yrL cs ks id t ∧ zrH cs ks id t = yrH cs ks id t) := by
  have hz := zr_eq (cs := cs) (ks := ks) id t
  unfold zrV at hz
  have hE : zrE cs ks id t = yrE cs ks id t := by
    by_cases h : zrE cs ks id t = 0
    · rw [if_pos h] at hz; injection hz with h1; injection h1 with h1; injection h1 with _ h1; injection h1 with h1; injection h1 with _ h1; omega
    · rw [if_neg h] at hz; injection hz with h1; injection h1 with h1; injection h1 with _ h1; injection h1 with h1; injection h1 with _ h1
  refine ⟨hE, fun h => ?_⟩
  have h2 : zrE cs ks id t = 0 := by rw [hE, h]
  rw [if_pos h2] at hz
  constructor
  · injection hz with h1; injection h1 with h1; injection h1 with h1; injection h1 with h1; injection h1 with h1; injection h1 with h1; injection h1
  · injection hz with h1; injection h1 with h1; injection h1 with h1; injection h1 with h1; injection h1 with h1; injection h1 with _ h1; injection h1 with h1; injection h1
def rwE (cs : List Ci) (ks : List Ck) (rc rt rs rl : Int) : Int := if asE cs ks rc rt rs rl = 0 then (if 900 < 2 * rl + asH cs ks rc rt rs rl - asL cs ks rc rt rs rl then 50 else 0) else asE cs ks rc rt rs rl
def rwF (cs : List Ci) (ks : List Ck) (rc rt rs rl : Int) : Int := if rwE cs ks rc rt rs rl = 0 then (rs - rl - asH cs ks rc rt rs rl) % 3600 else 0
def rwT (cs : List Ci) (ks : List Ck) (rc rt rs rl : Int) : Int := if rwE cs ks rc rt rs rl = 0 then (rs + rl - asL cs ks rc rt rs rl) % 3600 else 0
theorem as_of {cs : List Ci} {ks : List Ck} {rc rt rs rl : Int} (h : asE cs ks rc rt rs rl = 0) : asL cs ks rc rt rs rl = zrL cs ks rc rt ∧ asH cs ks rc rt rs rl = zrH cs ks rc rt ∧ ((0 ≤ rs ∧ rs ≤ 3599) ∧ (1 ≤ rl ∧ rl ≤ 100)) ∧ (-300 ≤ asL cs ks rc rt rs rl ∧ asL cs ks rc rt rs rl ≤ 300) ∧ -300 ≤ asH cs ks rc rt rs rl ∧ asH cs ks rc rt rs rl ≤ 300 := by
  unfold asE at h
  split at h
  · rename_i h1
    split at h
    · rename_i h2
      obtain ⟨e1, e2⟩ := zy_eq cs ks rc rt
      obtain ⟨e3, e4⟩ := e2 h
      have hl : asL cs ks rc rt rs rl = yrL cs ks rc rt := by unfold asL; rw [if_pos h1, if_pos h2]
      have hh : asH cs ks rc rt rs rl = yrH cs ks rc rt := by unfold asH; rw [if_pos h1, if_pos h2]
      obtain ⟨z, hz, ho, hr1, hr2⟩ := yr_ok h
      have hzo := Ci.ok_iff.1 (ciF_ok ho hz)
      have hb := sp_bd (dr := z.dr) (l := dlL z ks) (t := rt) (by omega) (by omega) (dlL_ok ho hz)
      obtain ⟨g1, g2⟩ := zr_of (ks := ks) (t := rt) hz
      unfold asB at h2
      rw [Bool.and_eq_true, ci_iff, ci_iff] at h2
      rw [hl, hh, ← e3, ← e4, g1, g2]
      exact ⟨rfl, rfl, h2, hb⟩
    · exact absurd h (by decide)
  · rename_i h1; exact absurd h h1
theorem as_df (cs : List Ci) (ks : List Ck) (rc rt rs rl : Int) : asE cs ks rc rt rs rl = dfE cs ks rc rt rs rl := by
  have e1 := (zy_eq cs ks rc rt).1
  unfold asE dfE asB
  unfold zrE at e1
  by_cases h : ccE cs ks = 0
  · rw [if_pos h] at e1
    rw [if_pos h, if_pos h, e1]
  · rw [if_neg h, if_neg h]
/-- The wedge of a reading is the reference's. -/
theorem wg_eq (cs : List Ci) (ks : List Ck) (rc rt rs rl : Int) : wgV cs ks rc rt rs rl = .tuple #[.agg #[.int .i64 (rwF cs ks rc rt rs rl), .int .i64 (rwT cs ks rc rt rs rl)], .int .i64 (rwE cs ks rc rt rs rl)] := by
  have hE : zfE cs ks rc rt rs rl = rwE cs ks rc rt rs rl := by
    unfold zfE rwE
    rw [← as_df]
    by_cases h : asE cs ks rc rt rs rl = 0
    · obtain ⟨e1, e2, _⟩ := as_of h
      rw [if_pos h, if_pos h, e1, e2]
    · rw [if_neg h, if_neg h]
  unfold wgV rwF rwT
  rw [hE]
  by_cases h : rwE cs ks rc rt rs rl = 0
  · have h2 : asE cs ks rc rt rs rl = 0 := by
      unfold rwE at h
      split at h
      · assumption
      · exact h
    obtain ⟨e1, e2, _⟩ := as_of h2
    rw [if_pos h, if_pos h, if_pos h, h, e1, e2]
  · rw [if_neg h, if_neg h, if_neg h]
set_option maxRecDepth 100000 in
set_option maxHeartbeats 8000000 in
theorem pWedge_any (v1 v2 : Value) (cs : List Ci) (ks : List Ck) (rc rt rs rl : Int) (w : World) (hv1 : CiRow w v1 cs) (hv2 : CkRow w v2 ks) (hl1 : cs.length ≤ 9223372036854775807) (hl2 : ks.length ≤ 9223372036854775807) :
    Calls Tryz.prog 71 #[.agg #[v1, v2], .agg #[.int .i64 rc, .int .i64 rt, .int .i64 rs, .int .i64 rl]] w fun e w' => e = .returned (.agg #[.int .i64 (rwF cs ks rc rt rs rl), .int .i64 (rwT cs ks rc rt rs rl), .int .i64 (rwE cs ks rc rt rs rl)]) ∧ Below w.heap.size w w' := by
  have HAS := Lib.hid (fun w' (h : Below w.heap.size w w') => asked_any v1 v2 cs ks rc rt rs rl w' (hv1.keep h) (hv2.keep h) hl1 hl2)
  have HOK := Lib.hid (as_of (cs := cs) (ks := ks) (rc := rc) (rt := rt) (rs := rs) (rl := rl))
  have HE : Hid (rwE cs ks rc rt rs rl = if asE cs ks rc rt rs rl = 0 then (if 900 < 2 * rl + asH cs ks rc rt rs rl - asL cs ks rc rt rs rl then 50 else 0) else asE cs ks rc rt rs rl) := Lib.hid rfl
  have HF : Hid (rwF cs ks rc rt rs rl = if rwE cs ks rc rt rs rl = 0 then (rs - rl - asH cs ks rc rt rs rl) % 3600 else 0) := Lib.hid rfl
  have HT : Hid (rwT cs ks rc rt rs rl = if rwE cs ks rc rt rs rl = 0 then (rs + rl - asL cs ks rc rt rs rl) % 3600 else 0) := Lib.hid rfl
  obtain ⟨RE, hRE⟩ : ∃ N, rwE cs ks rc rt rs rl = N := ⟨_, rfl⟩
  obtain ⟨RF, hRF⟩ : ∃ N, rwF cs ks rc rt rs rl = N := ⟨_, rfl⟩
  obtain ⟨RT, hRT⟩ : ∃ N, rwT cs ks rc rt rs rl = N := ⟨_, rfl⟩
  obtain ⟨E, hE⟩ : ∃ N, asE cs ks rc rt rs rl = N := ⟨_, rfl⟩
  obtain ⟨L, hL⟩ : ∃ N, asL cs ks rc rt rs rl = N := ⟨_, rfl⟩
  obtain ⟨U, hU⟩ : ∃ N, asH cs ks rc rt rs rl = N := ⟨_, rfl⟩
  rw [hE, hL, hU] at HAS HOK
  rw [hE, hL, hU, hRE] at HE
  rw [hRF, hRE, hU] at HF
  rw [hRT, hRE, hL] at HT
  rw [hRE, hRF, hRT]
  have HTU := Lib.hid (fun n w' => pTurn_any n w')
  clear hRE hRF hRT hE hL hU hv1 hv2
  obtain ⟨x0, x1, x2, xlt, xb⟩ := cells3 w #[v1, v2] #[.int .i64 rc, .int .i64 rt, .int .i64 rs, .int .i64 rl] #[.int .i64 0, .int .i64 0, .int .i64 0] 25 50 133 (Below.refl _ _)
  have HNc : Hid ((((w.alloc (.cells #[v1, v2] 25)).alloc (.cells #[.int .i64 rc, .int .i64 rt, .int .i64 rs, .int .i64 rl] 50)).alloc (.cells #[.int .i64 0, .int .i64 0, .int .i64 0] 133)).heap[w.heap.size]? = some (.cells #[v1, v2] 25 (0, 0))) := Lib.hid x0
  have HNq : Hid ((((w.alloc (.cells #[v1, v2] 25)).alloc (.cells #[.int .i64 rc, .int .i64 rt, .int .i64 rs, .int .i64 rl] 50)).alloc (.cells #[.int .i64 0, .int .i64 0, .int .i64 0] 133)).heap[w.heap.size + 1]? = some (.cells #[.int .i64 rc, .int .i64 rt, .int .i64 rs, .int .i64 rl] 50 (0, 0))) := Lib.hid x1
  have HNr : Hid ((((w.alloc (.cells #[v1, v2] 25)).alloc (.cells #[.int .i64 rc, .int .i64 rt, .int .i64 rs, .int .i64 rl] 50)).alloc (.cells #[.int .i64 0, .int .i64 0, .int .i64 0] 133)).heap[w.heap.size + 1 + 1]? = some (.cells #[.int .i64 0, .int .i64 0, .int .i64 0] 133 (0, 0))) := Lib.hid x2
  have HB : Hid (Below w.heap.size w (((w.alloc (.cells #[v1, v2] 25)).alloc (.cells #[.int .i64 rc, .int .i64 rt, .int .i64 rs, .int .i64 rl] 50)).alloc (.cells #[.int .i64 0, .int .i64 0, .int .i64 0] 133))) := Lib.hid xb
  obtain ⟨Z, hZ⟩ : ∃ Z, (((w.alloc (.cells #[v1, v2] 25)).alloc (.cells #[.int .i64 rc, .int .i64 rt, .int .i64 rs, .int .i64 rl] 50)).alloc (.cells #[.int .i64 0, .int .i64 0, .int .i64 0] 133)) = Z := ⟨_, rfl⟩
  rw [hZ] at HB HNc HNq HNr
  have HZ := Lib.hid hZ
  clear hZ xlt xb x0 x1 x2
  go_enter Tryz.func71, Tryz.ntmps71
  go_wp2_with fail
  rw [HZ.out]
  refine (HAS.out _ HB.out).mono ?_
  rintro e w1 ⟨rfl, hb⟩
  replace HB := Lib.hid (HB.out.trans (hb.mono HB.out.size))
  replace HNc := Lib.hid ((hb.block _ (Array.getElem?_eq_some_iff.1 HNc.out).1).trans HNc.out)
  replace HNq := Lib.hid ((hb.block _ (Array.getElem?_eq_some_iff.1 HNq.out).1).trans HNq.out)
  replace HNr := Lib.hid ((hb.block _ (Array.getElem?_eq_some_iff.1 HNr.out).1).trans HNr.out)
  clear hb
  by_cases h0 : E = 0
  case neg =>
    have gE : (E == 0) = false := by simpa using h0
    have HNE : Hid (RE = E) := Lib.hid (by rw [HE.out, if_neg h0])
    have HN : Hid (RF = 0 ∧ RT = 0 ∧ RE = E) := Lib.hid ⟨by rw [HF.out, HNE.out, if_neg h0], by rw [HT.out, HNE.out, if_neg h0], HNE.out⟩
    clear h0
    have hAlc : Below w1.heap.size w1 (w1.alloc (.cells #[.int .i64 L, .int .i64 U, .int .i64 E] 145)) := (Below.refl _ w1).alloc (Nat.le_refl _) _
    have HSk : Hid (w.heap.size ≤ w1.heap.size) := Lib.hid HB.out.size
    have HNk : Hid ((w1.alloc (.cells #[.int .i64 L, .int .i64 U, .int .i64 E] 145)).heap[w1.heap.size]? = some (.cells #[.int .i64 L, .int .i64 U, .int .i64 E] 145 (0, 0))) := Lib.hid (heap_alloc_new _ _)
    replace HB := Lib.hid (HB.out.trans (hAlc.mono HB.out.size))
    have HXc_k : Hid (w.heap.size ≠ w1.heap.size) := Lib.hid (Nat.ne_of_lt (Array.getElem?_eq_some_iff.1 HNc.out).1)
    have HXq_k : Hid (w.heap.size + 1 ≠ w1.heap.size) := Lib.hid (Nat.ne_of_lt (Array.getElem?_eq_some_iff.1 HNq.out).1)
    have HXr_k : Hid (w.heap.size + 1 + 1 ≠ w1.heap.size) := Lib.hid (Nat.ne_of_lt (Array.getElem?_eq_some_iff.1 HNr.out).1)
    replace HNc := Lib.hid ((hAlc.block _ (Array.getElem?_eq_some_iff.1 HNc.out).1).trans HNc.out)
    replace HNq := Lib.hid ((hAlc.block _ (Array.getElem?_eq_some_iff.1 HNq.out).1).trans HNq.out)
    replace HNr := Lib.hid ((hAlc.block _ (Array.getElem?_eq_some_iff.1 HNr.out).1).trans HNr.out)
    obtain ⟨ak, hak⟩ : ∃ qq, w1.alloc (.cells #[.int .i64 L, .int .i64 U, .int .i64 E] 145) = qq := ⟨_, rfl⟩
    obtain ⟨bkk, hbk⟩ : ∃ qq, w1.heap.size = qq := ⟨_, rfl⟩
    rw [hak] at HB HNk HNc HNq HNr
    rw [hbk] at HNk HSk HXc_k HXq_k HXr_k
    clear hAlc
    have zr0 := cellH HNr.out 0
    have zr1 := cellH HNr.out 1
    have zr2 := cellH HNr.out 2
    have zk0 := cellH HNk.out 0
    have zk1 := cellH HNk.out 1
    have zk2 := cellH HNk.out 2
    simp only [List.getElem?_toArray, List.getElem?_cons_zero, List.getElem?_cons_succ] at zr0 zr1 zr2 zk0 zk1 zk2
    have zfr := freeH HNr.out
    go_wp2_with fail
    try clear hak hbk
    obtain ⟨y1, y2⟩ := set3 HNr.out HB.out (by omega) (.int .i64 0) (.int .i64 0) (.int .i64 E)
    refine bodyPost_ret (results_cell_row Tryz.results71 _ _ (w.heap.size + 1 + 1) 133 _ (0, 0) _ rfl y1 Tryz.underlying133 rfl info_re3) rfl ?_
    exact ⟨by rw [HN.out.1, HN.out.2.1, HN.out.2.2], y2⟩
  subst h0
  obtain ⟨h7, h8, ⟨hs, hl⟩, hL, hU⟩ := HOK.out rfl
  clear h7 h8
  have e1 : IntKind.i64.wrap (2 * rl) = 2 * rl := IntWalk.i64_in _ (by omega)
  have e2 : IntKind.i64.wrap (2 * rl + U) = 2 * rl + U := IntWalk.i64_in _ (by omega)
  have e3 : IntKind.i64.wrap (2 * rl + U - L) = 2 * rl + U - L := IntWalk.i64_in _ (by omega)
  have e4 : IntKind.i64.wrap (rs - rl) = rs - rl := IntWalk.i64_in _ (by omega)
  have e5 : IntKind.i64.wrap (rs - rl - U) = rs - rl - U := IntWalk.i64_in _ (by omega)
  have e6 : IntKind.i64.wrap (rs + rl) = rs + rl := IntWalk.i64_in _ (by omega)
  have e7 : IntKind.i64.wrap (rs + rl - L) = rs + rl - L := IntWalk.i64_in _ (by omega)
  clear hs hl hL hU HOK
  have hAlc : Below w1.heap.size w1 (w1.alloc (.cells #[.int .i64 0, .int .i64 0, .int .i64 0] 145)) := (Below.refl _ w1).alloc (Nat.le_refl _) _
  have HSk : Hid (w.heap.size ≤ w1.heap.size) := Lib.hid HB.out.size
  have HNk : Hid ((w1.alloc (.cells #[.int .i64 0, .int .i64 0, .int .i64 0] 145)).heap[w1.heap.size]? = some (.cells #[.int .i64 0, .int .i64 0, .int .i64 0] 145 (0, 0))) := Lib.hid (heap_alloc_new _ _)
  replace HB := Lib.hid (HB.out.trans (hAlc.mono HB.out.size))
  have HXc_k : Hid (w.heap.size ≠ w1.heap.size) := Lib.hid (Nat.ne_of_lt (Array.getElem?_eq_some_iff.1 HNc.out).1)
  have HXq_k : Hid (w.heap.size + 1 ≠ w1.heap.size) := Lib.hid (Nat.ne_of_lt (Array.getElem?_eq_some_iff.1 HNq.out).1)
  have HXr_k : Hid (w.heap.size + 1 + 1 ≠ w1.heap.size) := Lib.hid (Nat.ne_of_lt (Array.getElem?_eq_some_iff.1 HNr.out).1)
  replace HNc := Lib.hid ((hAlc.block _ (Array.getElem?_eq_some_iff.1 HNc.out).1).trans HNc.out)
  replace HNq := Lib.hid ((hAlc.block _ (Array.getElem?_eq_some_iff.1 HNq.out).1).trans HNq.out)
  replace HNr := Lib.hid ((hAlc.block _ (Array.getElem?_eq_some_iff.1 HNr.out).1).trans HNr.out)
  obtain ⟨ak, hak⟩ : ∃ qq, w1.alloc (.cells #[.int .i64 0, .int .i64 0, .int .i64 0] 145) = qq := ⟨_, rfl⟩
  obtain ⟨bkk, hbk⟩ : ∃ qq, w1.heap.size = qq := ⟨_, rfl⟩
  rw [hak] at HB HNk HNc HNq HNr
  rw [hbk] at HNk HSk HXc_k HXq_k HXr_k
  clear hAlc
  have zk0 := cellH HNk.out 0
  have zk1 := cellH HNk.out 1
  have zk2 := cellH HNk.out 2
  simp only [List.getElem?_toArray, List.getElem?_cons_zero, List.getElem?_cons_succ] at zk0 zk1 zk2
  have zfk := freeH HNk.out
  replace HNc := Lib.hid ((heap_other ak (bkk) 0 (.int .i64 L) _ HXc_k.out).trans HNc.out)
  replace HNq := Lib.hid ((heap_other ak (bkk) 0 (.int .i64 L) _ HXq_k.out).trans HNq.out)
  replace HNr := Lib.hid ((heap_other ak (bkk) 0 (.int .i64 L) _ HXr_k.out).trans HNr.out)
  replace HNk := Lib.hid (heap_same HNk.out 0 (.int .i64 L))
  simp only [List.setIfInBounds_toArray, List.set_cons_zero, List.set_cons_succ] at HNk
  replace HB := Lib.hid (HB.out.setCell (p := ⟨bkk, 0, none⟩) HSk.out (.int .i64 L))
  obtain ⟨s2, hs2⟩ : ∃ X, ak.setCell ⟨bkk, 0, none⟩ (.int .i64 L) = X := ⟨_, rfl⟩
  rw [hs2] at HB HNc HNq HNr HNk
  have zk0_3 := cellH HNk.out 0
  have zk1_3 := cellH HNk.out 1
  have zk2_3 := cellH HNk.out 2
  simp only [List.getElem?_toArray, List.getElem?_cons_zero, List.getElem?_cons_succ] at zk0_3 zk1_3 zk2_3
  have zfk_3 := freeH HNk.out
  replace HNc := Lib.hid ((heap_other s2 (bkk) 1 (.int .i64 U) _ HXc_k.out).trans HNc.out)
  replace HNq := Lib.hid ((heap_other s2 (bkk) 1 (.int .i64 U) _ HXq_k.out).trans HNq.out)
  replace HNr := Lib.hid ((heap_other s2 (bkk) 1 (.int .i64 U) _ HXr_k.out).trans HNr.out)
  replace HNk := Lib.hid (heap_same HNk.out 1 (.int .i64 U))
  simp only [List.setIfInBounds_toArray, List.set_cons_zero, List.set_cons_succ] at HNk
  replace HB := Lib.hid (HB.out.setCell (p := ⟨bkk, 1, none⟩) HSk.out (.int .i64 U))
  obtain ⟨s3, hs3⟩ : ∃ X, s2.setCell ⟨bkk, 1, none⟩ (.int .i64 U) = X := ⟨_, rfl⟩
  rw [hs3] at HB HNc HNq HNr HNk
  have zk0_4 := cellH HNk.out 0
  have zk1_4 := cellH HNk.out 1
  have zk2_4 := cellH HNk.out 2
  simp only [List.getElem?_toArray, List.getElem?_cons_zero, List.getElem?_cons_succ] at zk0_4 zk1_4 zk2_4
  have zfk_4 := freeH HNk.out
  replace HNc := Lib.hid ((heap_other s3 (bkk) 2 (.int .i64 0) _ HXc_k.out).trans HNc.out)
  replace HNq := Lib.hid ((heap_other s3 (bkk) 2 (.int .i64 0) _ HXq_k.out).trans HNq.out)
  replace HNr := Lib.hid ((heap_other s3 (bkk) 2 (.int .i64 0) _ HXr_k.out).trans HNr.out)
  replace HNk := Lib.hid (heap_same HNk.out 2 (.int .i64 0))
  simp only [List.setIfInBounds_toArray, List.set_cons_zero, List.set_cons_succ] at HNk
  replace HB := Lib.hid (HB.out.setCell (p := ⟨bkk, 2, none⟩) HSk.out (.int .i64 0))
  obtain ⟨s4, hs4⟩ : ∃ X, s3.setCell ⟨bkk, 2, none⟩ (.int .i64 0) = X := ⟨_, rfl⟩
  rw [hs4] at HB HNc HNq HNr HNk
  by_cases h9 : 900 < 2 * rl + U - L
  case pos =>
    have HNE : Hid (RE = 50) := Lib.hid (by rw [HE.out, if_pos rfl, if_pos h9])
    have HN : Hid (RF = 0 ∧ RT = 0 ∧ RE = 50) := Lib.hid ⟨by rw [HF.out, HNE.out]; rfl, by rw [HT.out, HNE.out]; rfl, HNE.out⟩
    have zq0_5 := cellH HNq.out 0
    have zq1_5 := cellH HNq.out 1
    have zq2_5 := cellH HNq.out 2
    have zq3_5 := cellH HNq.out 3
    have zr0_5 := cellH HNr.out 0
    have zr1_5 := cellH HNr.out 1
    have zr2_5 := cellH HNr.out 2
    have zk0_5 := cellH HNk.out 0
    have zk1_5 := cellH HNk.out 1
    have zk2_5 := cellH HNk.out 2
    simp only [List.getElem?_toArray, List.getElem?_cons_zero, List.getElem?_cons_succ] at zq0_5 zq1_5 zq2_5 zq3_5 zr0_5 zr1_5 zr2_5 zk0_5 zk1_5 zk2_5
    have zfr_5 := freeH HNr.out
    go_wp2_with fail
    try clear hak hbk hs2 hs3 hs4
    obtain ⟨y1, y2⟩ := set3 HNr.out HB.out (by omega) (.int .i64 0) (.int .i64 0) (.int .i64 50)
    refine bodyPost_ret (results_cell_row Tryz.results71 _ _ (w.heap.size + 1 + 1) 133 _ (0, 0) _ rfl y1 Tryz.underlying133 rfl info_re3) rfl ?_
    exact ⟨by rw [HN.out.1, HN.out.2.1, HN.out.2.2], y2⟩
  have HNE : Hid (RE = 0) := Lib.hid (by rw [HE.out, if_pos rfl, if_neg h9])
  have HN : Hid (RF = (rs - rl - U) % 3600 ∧ RT = (rs + rl - L) % 3600 ∧ RE = 0) := Lib.hid ⟨by rw [HF.out, HNE.out]; rfl, by rw [HT.out, HNE.out]; rfl, HNE.out⟩
  have zq0_6 := cellH HNq.out 0
  have zq1_6 := cellH HNq.out 1
  have zq2_6 := cellH HNq.out 2
  have zq3_6 := cellH HNq.out 3
  have zk0_6 := cellH HNk.out 0
  have zk1_6 := cellH HNk.out 1
  have zk2_6 := cellH HNk.out 2
  simp only [List.getElem?_toArray, List.getElem?_cons_zero, List.getElem?_cons_succ] at zq0_6 zq1_6 zq2_6 zq3_6 zk0_6 zk1_6 zk2_6
  go_wp2_with fail
  try clear hak hbk hs2 hs3 hs4
  clear zk0 zk1 zk2 zfk zk0_3 zk1_3 zk2_3 zfk_3 zk0_4 zk1_4 zk2_4 zfk_4 zq0_6 zq1_6 zq2_6 zq3_6 zk0_6 zk1_6 zk2_6
  have HRD : Hid (∀ W', Below s4.heap.size s4 W' → W'.cell? ⟨w.heap.size + 1, 0, none⟩ = some (.int .i64 rc) ∧ W'.cell? ⟨w.heap.size + 1, 1, none⟩ = some (.int .i64 rt) ∧ W'.cell? ⟨w.heap.size + 1, 2, none⟩ = some (.int .i64 rs) ∧ W'.cell? ⟨w.heap.size + 1, 3, none⟩ = some (.int .i64 rl) ∧ W'.cell? ⟨bkk, 0, none⟩ = some (.int .i64 L) ∧ W'.cell? ⟨bkk, 1, none⟩ = some (.int .i64 U) ∧ W'.cell? ⟨bkk, 2, none⟩ = some (.int .i64 0)) := Lib.hid (fun W' h => ⟨cellH ((h.block _ (Array.getElem?_eq_some_iff.1 HNq.out).1).trans HNq.out) 0, cellH ((h.block _ (Array.getElem?_eq_some_iff.1 HNq.out).1).trans HNq.out) 1, cellH ((h.block _ (Array.getElem?_eq_some_iff.1 HNq.out).1).trans HNq.out) 2, cellH ((h.block _ (Array.getElem?_eq_some_iff.1 HNq.out).1).trans HNq.out) 3, cellH ((h.block _ (Array.getElem?_eq_some_iff.1 HNk.out).1).trans HNk.out) 0, cellH ((h.block _ (Array.getElem?_eq_some_iff.1 HNk.out).1).trans HNk.out) 1, cellH ((h.block _ (Array.getElem?_eq_some_iff.1 HNk.out).1).trans HNk.out) 2⟩)
  have C1 := Lib.hid (upQ (Z := s4) (fun w' => HTU.out (rs - rl - U) w'))
  have C2 := Lib.hid (upQ (Z := s4) (fun w' => HTU.out (rs + rl - L) w'))
  refine wp_region_turn 22 (fun _ w' => Below s4.heap.size s4 w') (by kernel_rfl) (by kernel_rfl) ((Below.refl _ s4).drew) ?_
  simp only [List.take_succ_cons, List.take_zero, List.drop_succ_cons, List.drop_zero]
  iterate 22
    (first
      | (apply turnC_step (by rfl); (intro w' hw'; obtain ⟨zq0, zq1, zq2, zq3, zk0, zk1, zk2⟩ := HRD.out w' hw'; go_simp; first | with_reducible exact ⟨hw', rfl⟩ | with_reducible exact ⟨hw', congrArg (Value.int .i64) e4⟩ | with_reducible exact ⟨hw', congrArg (Value.int .i64) e5⟩ | with_reducible exact ⟨hw', congrArg (Value.int .i64) e6⟩ | with_reducible exact ⟨hw', congrArg (Value.int .i64) e7⟩ | with_reducible exact rfl))
      | (apply turnC_step (by rfl); (intro w' hw'; go_simp; first | with_reducible exact C1.out w' hw' | with_reducible exact C2.out w' hw' | (rw [e4]; with_reducible exact C1.out w' hw') | (rw [e5]; with_reducible exact C1.out w' hw') | (rw [e6]; with_reducible exact C1.out w' hw') | (rw [e7]; with_reducible exact C1.out w' hw') | (rw [e4]; with_reducible exact C2.out w' hw') | (rw [e5]; with_reducible exact C2.out w' hw') | (rw [e6]; with_reducible exact C2.out w' hw') | (rw [e7]; with_reducible exact C2.out w' hw'))))
    simp only [Act.put, List.setIfInBounds_toArray, List.set_cons_succ, List.set_cons_zero]
  intro listed w5 _ hb
  replace HB := Lib.hid (HB.out.trans (hb.mono HB.out.size))
  replace HNc := Lib.hid ((hb.block _ (Array.getElem?_eq_some_iff.1 HNc.out).1).trans HNc.out)
  replace HNq := Lib.hid ((hb.block _ (Array.getElem?_eq_some_iff.1 HNq.out).1).trans HNq.out)
  replace HNr := Lib.hid ((hb.block _ (Array.getElem?_eq_some_iff.1 HNr.out).1).trans HNr.out)
  replace HNk := Lib.hid ((hb.block _ (Array.getElem?_eq_some_iff.1 HNk.out).1).trans HNk.out)
  clear hb
  have zr0 := cellH HNr.out 0
  have zr1 := cellH HNr.out 1
  have zr2 := cellH HNr.out 2
  simp only [List.getElem?_toArray, List.getElem?_cons_zero, List.getElem?_cons_succ] at zr0 zr1 zr2
  have zfr := freeH HNr.out
  go_wp2_with fail
  obtain ⟨y1, y2⟩ := set3 HNr.out HB.out (by omega) (.int .i64 ((rs - rl - U) % 3600)) (.int .i64 ((rs + rl - L) % 3600)) (.int .i64 0)
  refine bodyPost_ret (results_cell_row Tryz.results71 _ _ (w.heap.size + 1 + 1) 133 _ (0, 0) _ rfl y1 Tryz.underlying133 rfl info_re3) rfl ?_
  exact ⟨by rw [HN.out.1, HN.out.2.1, HN.out.2.2], y2⟩
end Go.Proofs.YtebdboacmeafaaaGreat
