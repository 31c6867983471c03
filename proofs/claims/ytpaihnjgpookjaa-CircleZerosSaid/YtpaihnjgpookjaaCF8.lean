/- Package firetowerref05: Rests. -/
import Derived.Test.YtpaihnjgpookjaaCF7
import Derived.Deep.DeepCutAuto
set_option linter.unusedVariables false
set_option linter.unusedSimpArgs false
namespace Go.Proofs.Ytpaihnjgpookjaa
open Go Go.RowKit

/-- The least number of a thing that alone bounds the zero so, so far. -/
def rNf (A : Th → Int) (bound o : Int) (h : Th) : Int := if (A h == bound && (decide (o < 0) || decide (h.id < o))) = true then h.id else o
def rNl (A : Th → Int) (bound start : Int) (l : List Th) : Int := l.foldl (rNf A bound) start
theorem rN_step {A : Th → Int} {bound start : Int} {l : List Th} {k : Nat} (hk : k < l.length) : rNl A bound start (l.take (k + 1)) = rNf A bound (rNl A bound start (l.take k)) (l.getD k .nil) := by
  unfold rNl
  rw [List.take_succ_eq_append_getElem hk, List.foldl_append, List.getD_eq_getElem?_getD, List.getElem?_eq_getElem hk]
  rfl
theorem yr_ok {cs : List Ci} {ks : List Ck} {id t : Int} (h : yrE cs ks id t = 0) : ∃ z, ciF cs id = some z ∧ CcOk cs ks ∧ z.f ≤ t ∧ t ≤ z.t := by
  unfold yrE at h
  split at h
  · rename_i hu
    unfold usE at hu
    split at hu
    · rename_i hc
      cases hf : ciF cs id with
      | none => rw [hf] at hu; simp at hu
      | some z =>
        rw [hf] at hu
        simp only at hu
        refine ⟨z, rfl, ccE_ok hc, ?_⟩
        split at hu
        · cases hu
        · rename_i hq
          simp only [Bool.or_eq_true, decide_eq_true_eq] at hq
          omega
    · rename_i hc; exact absurd hu hc
  · rename_i hu; exact absurd h hu
def stI (b last : Int) : Int := bif b == last then 0 else -1
/-- What the reference's Rests answers. -/
def rtL (cs : List Ci) (ks : List Ck) (id t : Int) : Int := if yrE cs ks id t = 0 then max 0 (rNl (fun h => lowI ((ciF cs id).getD .nil).dr h t) (yrL cs ks id t) (stI (yrL cs ks id t) (-300)) (thL ((ciF cs id).getD .nil) ks)) else 0
def rtH (cs : List Ci) (ks : List Ck) (id t : Int) : Int := if yrE cs ks id t = 0 then max 0 (rNl (fun h => highI ((ciF cs id).getD .nil).dr h t) (yrH cs ks id t) (stI (yrH cs ks id t) 300) (thL ((ciF cs id).getD .nil) ks)) else 0
set_option maxRecDepth 100000 in
set_option maxHeartbeats 8000000 in
theorem rRests_any (v1 v2 : Value) (cs : List Ci) (ks : List Ck) (id t : Int) (w : World) (hv1 : CiRow w v1 cs) (hv2 : CkRow w v2 ks) (hl1 : cs.length ≤ 9223372036854775807) (hl2 : ks.length ≤ 9223372036854775807) :
    Calls Try.prog 28 #[.agg #[v1, v2], .int .i64 id, .int .i64 t] w fun e w' => e = .returned (.tuple #[.int .i64 (rtL cs ks id t), .int .i64 (rtH cs ks id t), .int .i64 (yrE cs ks id t)]) ∧ Below w.heap.size w w' := by
  obtain ⟨a1, c1, rfl, _⟩ := hv1.form
  obtain ⟨a2, c2, rfl, _⟩ := hv2.form
  have HZR := Lib.hid (fun w' (h : Below w.heap.size w w') => rZero_any (.slice a1 cs.length c1) (.slice a2 ks.length c2) cs ks id t w' (hv1.keep h) (hv2.keep h) hl1 hl2)
  have HFD := Lib.hid (fun (ho : CcOk cs ks) w' (h : Below w.heap.size w w') => pfind_any (.slice a1 cs.length c1) (.slice a2 ks.length c2) cs id w' (hv1.keep h) (by have := ho.n; omega))
  have HTH := Lib.hid (fun (ho : CcOk cs ks) z (hz : ciF cs z.id = some z) w' (h : Below w.heap.size w w') => things_any (.slice a1 cs.length c1) (.slice a2 ks.length c2) cs ks z w' (hv1.keep h) (hv2.keep h) ho hz)
  unfold ThgOut at HTH
  have HMEM := Lib.hid (fun z => ciF_mem (l := cs) (id := id) (k := z))
  have HYO := Lib.hid (yr_ok (cs := cs) (ks := ks) (id := id) (t := t))
  have HL1 : Hid (yrE cs ks id t ≠ 0 → rtL cs ks id t = 0 ∧ rtH cs ks id t = 0) := Lib.hid (fun h => by unfold rtL rtH; rw [if_neg h, if_neg h]; exact ⟨rfl, rfl⟩)
  have HL2 : Hid (yrE cs ks id t = 0 → ∀ z, ciF cs id = some z → rtL cs ks id t = max 0 (rNl (fun h => lowI z.dr h t) (yrL cs ks id t) (stI (yrL cs ks id t) (-300)) (thL z ks)) ∧ rtH cs ks id t = max 0 (rNl (fun h => highI z.dr h t) (yrH cs ks id t) (stI (yrH cs ks id t) 300) (thL z ks))) := Lib.hid (fun h z hz => by unfold rtL rtH; rw [if_pos h, if_pos h, hz]; exact ⟨rfl, rfl⟩)
  obtain ⟨YE, hYE⟩ : ∃ U, yrE cs ks id t = U := ⟨_, rfl⟩
  obtain ⟨YL, hYL⟩ : ∃ U, yrL cs ks id t = U := ⟨_, rfl⟩
  obtain ⟨YH, hYH⟩ : ∃ U, yrH cs ks id t = U := ⟨_, rfl⟩
  obtain ⟨RL, hRL⟩ : ∃ U, rtL cs ks id t = U := ⟨_, rfl⟩
  obtain ⟨RH, hRH⟩ : ∃ U, rtH cs ks id t = U := ⟨_, rfl⟩
  rw [hYE, hYL, hYH] at HZR
  rw [hYE] at HYO
  rw [hYE, hRL, hRH] at HL1
  rw [hYE, hYL, hYH, hRL, hRH] at HL2
  rw [hYE, hRL, hRH]
  clear hv1 hv2 hYE hYL hYH hRL hRH
  obtain ⟨x0, xlt, xb⟩ := cells1 w #[.slice a1 cs.length c1, .slice a2 ks.length c2] 46 (Below.refl _ _)
  have HNc : Hid ((w.alloc (.cells #[.slice a1 cs.length c1, .slice a2 ks.length c2] 46)).heap[w.heap.size]? = some (.cells #[.slice a1 cs.length c1, .slice a2 ks.length c2] 46 (0, 0))) := Lib.hid x0
  have HB : Hid (Below w.heap.size w (w.alloc (.cells #[.slice a1 cs.length c1, .slice a2 ks.length c2] 46))) := Lib.hid xb
  obtain ⟨Z, hZ⟩ : ∃ Z, (w.alloc (.cells #[.slice a1 cs.length c1, .slice a2 ks.length c2] 46)) = Z := ⟨_, rfl⟩
  rw [hZ] at HB HNc
  have HZ := Lib.hid hZ
  clear hZ xlt xb x0
  go_enter Try.func28, Try.ntmps28
  go_wp2_with fail
  rw [HZ.out]
  refine (HZR.out _ HB.out).mono ?_
  rintro e w1 ⟨rfl, hb⟩
  replace HB := Lib.hid (HB.out.trans (hb.mono HB.out.size))
  replace HNc := Lib.hid ((hb.block _ (Array.getElem?_eq_some_iff.1 HNc.out).1).trans HNc.out)
  clear hb
  by_cases hE0 : YE = 0
  case neg =>
    have HN := Lib.hid (HL1.out hE0)
    have gE : (YE == 0) = false := by simpa using hE0
    clear hE0
    have hAlc : Below w1.heap.size w1 (w1.alloc (.cells #[.int .i64 YL, .int .i64 YH, .int .i64 YE] 54)) := (Below.refl _ w1).alloc (Nat.le_refl _) _
    have HSk : Hid (w.heap.size ≤ w1.heap.size) := Lib.hid HB.out.size
    have HNk : Hid ((w1.alloc (.cells #[.int .i64 YL, .int .i64 YH, .int .i64 YE] 54)).heap[w1.heap.size]? = some (.cells #[.int .i64 YL, .int .i64 YH, .int .i64 YE] 54 (0, 0))) := Lib.hid (heap_alloc_new _ _)
    replace HB := Lib.hid (HB.out.trans (hAlc.mono HB.out.size))
    have HXc_k : Hid (w.heap.size ≠ w1.heap.size) := Lib.hid (Nat.ne_of_lt (Array.getElem?_eq_some_iff.1 HNc.out).1)
    replace HNc := Lib.hid ((hAlc.block _ (Array.getElem?_eq_some_iff.1 HNc.out).1).trans HNc.out)
    obtain ⟨ak, hak⟩ : ∃ qq, w1.alloc (.cells #[.int .i64 YL, .int .i64 YH, .int .i64 YE] 54) = qq := ⟨_, rfl⟩
    obtain ⟨bkk, hbk⟩ : ∃ qq, w1.heap.size = qq := ⟨_, rfl⟩
    rw [hak] at HB HNk HNc
    rw [hbk] at HNk HSk HXc_k
    clear hAlc
    have zk0 := cellH HNk.out 0
    have zk1 := cellH HNk.out 1
    have zk2 := cellH HNk.out 2
    simp only [List.getElem?_toArray, List.getElem?_cons_zero, List.getElem?_cons_succ] at zk0 zk1 zk2
    go_wp2_with fail
    go_quiet (fail)
    go_wp2_with fail
    go_ret3
    exact ⟨by rw [HN.out.1, HN.out.2]; rfl, by first | exact belowN HB.out _ | exact HB.out.drew⟩
  obtain ⟨z, hz, hco, hr1, hr2⟩ := HYO.out hE0
  have hzi := (HMEM.out z hz).choose_spec.2.2
  have HCO := Lib.hid hco
  have hzz : ciF cs z.id = some z := by rw [hzi]; exact hz
  have hzo := Ci.ok_iff.1 (ciF_ok HCO.out hzz)
  have HDR := Lib.hid (show (0 ≤ z.dr ∧ z.dr ≤ 60) ∧ 0 ≤ t ∧ t ≤ 1048576 from ⟨⟨by omega, by omega⟩, by omega, by omega⟩)
  have HL3 := Lib.hid (HL2.out hE0 z hz)
  have HFD2 : Hid (∀ w', Below w.heap.size w w' → Calls Try.prog 69 #[.agg #[.slice a1 cs.length c1, .slice a2 ks.length c2], .int .i64 id] w' fun e w'' => e = .returned (.tuple #[z.val, .bool true]) ∧ Below w'.heap.size w' w'') := Lib.hid (fun w' h => by have h2 := HFD.out hco w' h; rw [hz] at h2; exact h2)
  have HTH2 := Lib.hid (HTH.out HCO.out z hzz)
  have HOT : Hid (∀ j, j < (thL z ks).length → ((thL z ks).getD j .nil).ok) := Lib.hid (fun j hj => dlL_ok HCO.out hzz _ ((srtH_perm _).mem_iff.2 (by rw [List.getD_eq_getElem?_getD, List.getElem?_eq_getElem hj]; exact List.getElem_mem _)))
  have HTL := Lib.hid (thL_len (z := z) HCO.out.m)
  have HFA := Lib.hid (fun s w' hs => pFar_any z s t w' HDR.out.1 hs HDR.out.2)
  have HFB := Lib.hid (fun s hs => (fr_mul (s := s) HDR.out.1 hs HDR.out.2).2)
  obtain ⟨TL, hTL⟩ : ∃ T, thL z ks = T := ⟨_, rfl⟩
  rw [hTL] at HL3 HTH2 HOT HTL
  clear hz hco hr1 hr2 hzi hzz hzo HL1 HL2 HTH HMEM HYO HFD hTL
  subst hE0
  obtain ⟨z0, z1, z2, z3, z4, z5, z6, z7⟩ := z
  simp only at HL3 HTH2 HFD2 HFA HFB
  have hAlc : Below w1.heap.size w1 (w1.alloc (.cells #[.int .i64 0, .int .i64 0, .int .i64 0] 54)) := (Below.refl _ w1).alloc (Nat.le_refl _) _
  have HSk : Hid (w.heap.size ≤ w1.heap.size) := Lib.hid HB.out.size
  have HNk : Hid ((w1.alloc (.cells #[.int .i64 0, .int .i64 0, .int .i64 0] 54)).heap[w1.heap.size]? = some (.cells #[.int .i64 0, .int .i64 0, .int .i64 0] 54 (0, 0))) := Lib.hid (heap_alloc_new _ _)
  replace HB := Lib.hid (HB.out.trans (hAlc.mono HB.out.size))
  have HXc_k : Hid (w.heap.size ≠ w1.heap.size) := Lib.hid (Nat.ne_of_lt (Array.getElem?_eq_some_iff.1 HNc.out).1)
  replace HNc := Lib.hid ((hAlc.block _ (Array.getElem?_eq_some_iff.1 HNc.out).1).trans HNc.out)
  obtain ⟨ak, hak⟩ : ∃ qq, w1.alloc (.cells #[.int .i64 0, .int .i64 0, .int .i64 0] 54) = qq := ⟨_, rfl⟩
  obtain ⟨bkk, hbk⟩ : ∃ qq, w1.heap.size = qq := ⟨_, rfl⟩
  rw [hak] at HB HNk HNc
  rw [hbk] at HNk HSk HXc_k
  clear hAlc
  have zk0 := cellH HNk.out 0
  have zk1 := cellH HNk.out 1
  have zk2 := cellH HNk.out 2
  simp only [List.getElem?_toArray, List.getElem?_cons_zero, List.getElem?_cons_succ] at zk0 zk1 zk2
  have zfk := freeH HNk.out
  replace HNc := Lib.hid ((heap_other ak (bkk) 0 (.int .i64 YL) _ HXc_k.out).trans HNc.out)
  replace HNk := Lib.hid (heap_same HNk.out 0 (.int .i64 YL))
  simp only [List.setIfInBounds_toArray, List.set_cons_zero, List.set_cons_succ] at HNk
  replace HB := Lib.hid (HB.out.setCell (p := ⟨bkk, 0, none⟩) HSk.out (.int .i64 YL))
  obtain ⟨s2, hs2⟩ : ∃ X, ak.setCell ⟨bkk, 0, none⟩ (.int .i64 YL) = X := ⟨_, rfl⟩
  rw [hs2] at HB HNc HNk
  have zk0_3 := cellH HNk.out 0
  have zk1_3 := cellH HNk.out 1
  have zk2_3 := cellH HNk.out 2
  simp only [List.getElem?_toArray, List.getElem?_cons_zero, List.getElem?_cons_succ] at zk0_3 zk1_3 zk2_3
  have zfk_3 := freeH HNk.out
  replace HNc := Lib.hid ((heap_other s2 (bkk) 1 (.int .i64 YH) _ HXc_k.out).trans HNc.out)
  replace HNk := Lib.hid (heap_same HNk.out 1 (.int .i64 YH))
  simp only [List.setIfInBounds_toArray, List.set_cons_zero, List.set_cons_succ] at HNk
  replace HB := Lib.hid (HB.out.setCell (p := ⟨bkk, 1, none⟩) HSk.out (.int .i64 YH))
  obtain ⟨s3, hs3⟩ : ∃ X, s2.setCell ⟨bkk, 1, none⟩ (.int .i64 YH) = X := ⟨_, rfl⟩
  rw [hs3] at HB HNc HNk
  have zk0_4 := cellH HNk.out 0
  have zk1_4 := cellH HNk.out 1
  have zk2_4 := cellH HNk.out 2
  simp only [List.getElem?_toArray, List.getElem?_cons_zero, List.getElem?_cons_succ] at zk0_4 zk1_4 zk2_4
  have zfk_4 := freeH HNk.out
  replace HNc := Lib.hid ((heap_other s3 (bkk) 2 (.int .i64 0) _ HXc_k.out).trans HNc.out)
  replace HNk := Lib.hid (heap_same HNk.out 2 (.int .i64 0))
  simp only [List.setIfInBounds_toArray, List.set_cons_zero, List.set_cons_succ] at HNk
  replace HB := Lib.hid (HB.out.setCell (p := ⟨bkk, 2, none⟩) HSk.out (.int .i64 0))
  obtain ⟨s4, hs4⟩ : ∃ X, s3.setCell ⟨bkk, 2, none⟩ (.int .i64 0) = X := ⟨_, rfl⟩
  rw [hs4] at HB HNc HNk
  have zc0_5 := cellH HNc.out 0
  have zc1_5 := cellH HNc.out 1
  have zk0_5 := cellH HNk.out 0
  have zk1_5 := cellH HNk.out 1
  have zk2_5 := cellH HNk.out 2
  simp only [List.getElem?_toArray, List.getElem?_cons_zero, List.getElem?_cons_succ] at zc0_5 zc1_5 zk0_5 zk1_5 zk2_5
  go_wp2_with fail
  try clear hak hbk hs2 hs3 hs4
  refine (HFD2.out _ HB.out).mono ?_
  rintro e w5 ⟨rfl, hb⟩
  clear zk0 zk1 zk2 zfk zk0_3 zk1_3 zk2_3 zfk_3 zk0_4 zk1_4 zk2_4 zfk_4 zc0_5 zc1_5 zk0_5 zk1_5 zk2_5
  replace HB := Lib.hid (HB.out.trans (hb.mono HB.out.size))
  replace HNc := Lib.hid ((hb.block _ (Array.getElem?_eq_some_iff.1 HNc.out).1).trans HNc.out)
  replace HNk := Lib.hid ((hb.block _ (Array.getElem?_eq_some_iff.1 HNk.out).1).trans HNk.out)
  clear hb
  have hAlc : Below w5.heap.size w5 (w5.alloc (.cells #[.int .i64 z0, .int .i64 z1, .int .i64 z2, .int .i64 z3, .int .i64 z4, .int .i64 z5, .int .i64 z6, .int .i64 z7] 99)) := (Below.refl _ w5).alloc (Nat.le_refl _) _
  have HSx : Hid (w.heap.size ≤ w5.heap.size) := Lib.hid HB.out.size
  have HNx : Hid ((w5.alloc (.cells #[.int .i64 z0, .int .i64 z1, .int .i64 z2, .int .i64 z3, .int .i64 z4, .int .i64 z5, .int .i64 z6, .int .i64 z7] 99)).heap[w5.heap.size]? = some (.cells #[.int .i64 z0, .int .i64 z1, .int .i64 z2, .int .i64 z3, .int .i64 z4, .int .i64 z5, .int .i64 z6, .int .i64 z7] 99 (0, 0))) := Lib.hid (heap_alloc_new _ _)
  replace HB := Lib.hid (HB.out.trans (hAlc.mono HB.out.size))
  have HXc_x : Hid (w.heap.size ≠ w5.heap.size) := Lib.hid (Nat.ne_of_lt (Array.getElem?_eq_some_iff.1 HNc.out).1)
  have HXk_x : Hid (bkk ≠ w5.heap.size) := Lib.hid (Nat.ne_of_lt (Array.getElem?_eq_some_iff.1 HNk.out).1)
  replace HNc := Lib.hid ((hAlc.block _ (Array.getElem?_eq_some_iff.1 HNc.out).1).trans HNc.out)
  replace HNk := Lib.hid ((hAlc.block _ (Array.getElem?_eq_some_iff.1 HNk.out).1).trans HNk.out)
  obtain ⟨ax, hax⟩ : ∃ qq, w5.alloc (.cells #[.int .i64 z0, .int .i64 z1, .int .i64 z2, .int .i64 z3, .int .i64 z4, .int .i64 z5, .int .i64 z6, .int .i64 z7] 99) = qq := ⟨_, rfl⟩
  obtain ⟨bkx, hbx⟩ : ∃ qq, w5.heap.size = qq := ⟨_, rfl⟩
  rw [hax] at HB HNx HNc HNk
  rw [hbx] at HNx HSx HXc_x HXk_x
  clear hAlc
  have zc0 := cellH HNc.out 0
  have zc1 := cellH HNc.out 1
  have zx0 := cellH HNx.out 0
  have zx1 := cellH HNx.out 1
  have zx2 := cellH HNx.out 2
  have zx3 := cellH HNx.out 3
  have zx4 := cellH HNx.out 4
  have zx5 := cellH HNx.out 5
  have zx6 := cellH HNx.out 6
  have zx7 := cellH HNx.out 7
  simp only [List.getElem?_toArray, List.getElem?_cons_zero, List.getElem?_cons_succ] at zc0 zc1 zx0 zx1 zx2 zx3 zx4 zx5 zx6 zx7
  go_wp2_with fail
  try clear hax hbx
  refine (HTH2.out _ HB.out).mono ?_
  rintro e w6 ⟨tv, rfl, hT, hb⟩
  clear zc0 zc1 zx0 zx1 zx2 zx3 zx4 zx5 zx6 zx7
  replace HB := Lib.hid (HB.out.trans (hb.mono HB.out.size))
  replace HNc := Lib.hid ((hb.block _ (Array.getElem?_eq_some_iff.1 HNc.out).1).trans HNc.out)
  replace HNk := Lib.hid ((hb.block _ (Array.getElem?_eq_some_iff.1 HNk.out).1).trans HNk.out)
  replace HNx := Lib.hid ((hb.block _ (Array.getElem?_eq_some_iff.1 HNx.out).1).trans HNx.out)
  clear hb
  have HT := Lib.hid hT
  obtain ⟨ta, tc, rfl, _⟩ := hT.form
  clear hT
  clear HNc
  have HSA : Hid (stI YL (-300) = bif YL == -300 then 0 else -1) := Lib.hid rfl
  have HSB : Hid (stI YH 300 = bif YH == 300 then 0 else -1) := Lib.hid rfl
  obtain ⟨S1, hS1⟩ : ∃ S, stI YL (-300) = S := ⟨_, rfl⟩
  obtain ⟨S2, hS2⟩ : ∃ S, stI YH 300 = S := ⟨_, rfl⟩
  rw [hS1] at HSA HL3
  rw [hS2] at HSB HL3
  clear hS1 hS2
  have zk0 := cellH HNk.out 0
  have zk1 := cellH HNk.out 1
  have zk2 := cellH HNk.out 2
  simp only [List.getElem?_toArray, List.getElem?_cons_zero, List.getElem?_cons_succ] at zk0 zk1 zk2
  go_upto_if 38 with fail
  go_cut [13] (fun x wx => Hid (x = .int .i64 S1) ∧ wx = w6)
  case first =>
    have HS1 := HSA.out
    cases gl : (YL == -300)
    · rw [gl] at HS1
      have HSS := Lib.hid HS1
      clear HS1
      go_wp2_with fail
      go_meet
      exact ⟨Lib.hid (by rw [HSS.out]; rfl), rfl⟩
    · rw [gl] at HS1
      have HSS := Lib.hid HS1
      clear HS1
      go_wp2_with fail
      go_meet
      exact ⟨Lib.hid (by rw [HSS.out]; rfl), rfl⟩
  case rest =>
    obtain ⟨hx1, hwc⟩ := hcut
    have hx1 := hx1.out
    subst hx1
    have hwc := hwc.symm
    subst hwc
    go_upto_if 42 with fail
    go_cut [14] (fun x wx => Hid (x = .int .i64 S2) ∧ wx = w6)
    case first =>
      have HS2 := HSB.out
      cases gh : (YH == 300)
      · rw [gh] at HS2
        have HSS := Lib.hid HS2
        clear HS2
        go_wp2_with fail
        go_meet
        exact ⟨Lib.hid (by rw [HSS.out]; rfl), rfl⟩
      · rw [gh] at HS2
        have HSS := Lib.hid HS2
        clear HS2
        go_wp2_with fail
        go_meet
        exact ⟨Lib.hid (by rw [HSS.out]; rfl), rfl⟩
    case rest =>
      obtain ⟨hx1, hwc⟩ := hcut
      have hx1 := hx1.out
      subst hx1
      have hwc := hwc.symm
      subst hwc
      go_wp2_with fail
      clear zk0 zk1 zk2
      go_loopw [13, 14, 15] (fun x y i wr => ∃ (k : Nat) (lo hi : Int), k ≤ TL.length ∧ x = .int .i64 lo ∧ y = .int .i64 hi ∧ i = .int .i64 k ∧ Hid (lo = rNl (fun h => lowI z7 h t) YL S1 (TL.take k) ∧ hi = rNl (fun h => highI z7 h t) YH S2 (TL.take k)) ∧ Hid (Below w.heap.size w wr) ∧ Hid (wr.heap[bkk]? = some (.cells #[.int .i64 YL, .int .i64 YH, .int .i64 0] 54 (0, 0))) ∧ Hid (wr.heap[bkx]? = some (.cells #[.int .i64 z0, .int .i64 z1, .int .i64 z2, .int .i64 z3, .int .i64 z4, .int .i64 z5, .int .i64 z6, .int .i64 z7] 99 (0, 0))) ∧ Hid (TgRow wr (.slice ta TL.length tc) TL)) (fun _ _ i _ => TL.length - (intOf i).toNat)
      case atStart => exact ⟨0, _, _, Nat.zero_le _, rfl, rfl, rfl, Lib.hid ⟨rfl, rfl⟩, HB, HNk, HNx, HT⟩
      case round =>
        clear HB HNk HNx HT
        obtain ⟨k, lo, hi, hk, rfl, rfl, rfl, hV, HB, HNk, HNx, HT⟩ := hrel
        have htl := HTL.out
        by_cases hkl : k < TL.length
        · obtain ⟨ta2, tc2, htq, hTf⟩ := HT.out.form
          cases htq
          obtain ⟨b, off, rfl, hb, hat⟩ := hTf k hkl
          have HAT := Lib.hid hat
          have HBL := Lib.hid hb
          have hki : (k : Int) < TL.length := by omega
          have hk0 : (0 : Int) ≤ k := by omega
          have HKL := Lib.hid hkl
          have hko := HOT.out k hkl
          have HFA2 := Lib.hid (fun w' => HFA.out (TL.getD k .nil).t w' hko.1)
          have hfb := HFB.out (TL.getD k .nil).t hko.1
          have HN1 : Hid (rNl (fun h => lowI z7 h t) YL S1 (TL.take (k + 1)) = if (((TL.getD k .nil).lo - frI z7 (TL.getD k .nil).t t) == YL && (decide (lo < 0) || decide ((TL.getD k .nil).id < lo))) = true then (TL.getD k .nil).id else lo) := Lib.hid (by rw [rN_step hkl, ← hV.out.1]; rfl)
          have HN2 : Hid (rNl (fun h => highI z7 h t) YH S2 (TL.take (k + 1)) = if (((TL.getD k .nil).hi + frI z7 (TL.getD k .nil).t t) == YH && (decide (hi < 0) || decide ((TL.getD k .nil).id < hi))) = true then (TL.getD k .nil).id else hi) := Lib.hid (by rw [rN_step hkl, ← hV.out.2]; rfl)
          have hlo := hko.2.1
          have hhi := hko.2.2
          obtain ⟨D, hD⟩ : ∃ D, frI z7 (TL.getD k .nil).t t = D := ⟨_, rfl⟩
          rw [hD] at HFA2 hfb HN1 HN2
          obtain ⟨X, hX⟩ : ∃ X, TL.getD k .nil = X := ⟨_, rfl⟩
          rw [hX] at HFA2 HN1 HN2 HAT hlo hhi
          obtain ⟨p0, pc, p1, px, py, ps, psl, p2, p3, p4⟩ := X
          simp only at HN1 HN2 hlo hhi
          have e1 : IntKind.i64.wrap (p2 - D) = p2 - D := IntWalk.i64_in _ (by omega)
          have e2 : IntKind.i64.wrap (p3 + D) = p3 + D := IntWalk.i64_in _ (by omega)
          clear hTf hb hat hko hfb hlo hhi hD hX
          have HRD : Hid (∀ W', Below wr.heap.size wr W' → W'.cell? ⟨bkk, 0, none⟩ = some (.int .i64 YL) ∧ W'.cell? ⟨bkk, 1, none⟩ = some (.int .i64 YH) ∧ W'.cell? ⟨bkk, 2, none⟩ = some (.int .i64 0) ∧ W'.cell? ⟨bkx, 0, none⟩ = some (.int .i64 z0) ∧ W'.cell? ⟨bkx, 1, none⟩ = some (.int .i64 z1) ∧ W'.cell? ⟨bkx, 2, none⟩ = some (.int .i64 z2) ∧ W'.cell? ⟨bkx, 3, none⟩ = some (.int .i64 z3) ∧ W'.cell? ⟨bkx, 4, none⟩ = some (.int .i64 z4) ∧ W'.cell? ⟨bkx, 5, none⟩ = some (.int .i64 z5) ∧ W'.cell? ⟨bkx, 6, none⟩ = some (.int .i64 z6) ∧ W'.cell? ⟨bkx, 7, none⟩ = some (.int .i64 z7) ∧ TgAt W' b off k ⟨p0, pc, p1, px, py, ps, psl, p2, p3, p4⟩) := Lib.hid (fun W' h => ⟨cellH ((h.block _ (Array.getElem?_eq_some_iff.1 HNk.out).1).trans HNk.out) 0, cellH ((h.block _ (Array.getElem?_eq_some_iff.1 HNk.out).1).trans HNk.out) 1, cellH ((h.block _ (Array.getElem?_eq_some_iff.1 HNk.out).1).trans HNk.out) 2, cellH ((h.block _ (Array.getElem?_eq_some_iff.1 HNx.out).1).trans HNx.out) 0, cellH ((h.block _ (Array.getElem?_eq_some_iff.1 HNx.out).1).trans HNx.out) 1, cellH ((h.block _ (Array.getElem?_eq_some_iff.1 HNx.out).1).trans HNx.out) 2, cellH ((h.block _ (Array.getElem?_eq_some_iff.1 HNx.out).1).trans HNx.out) 3, cellH ((h.block _ (Array.getElem?_eq_some_iff.1 HNx.out).1).trans HNx.out) 4, cellH ((h.block _ (Array.getElem?_eq_some_iff.1 HNx.out).1).trans HNx.out) 5, cellH ((h.block _ (Array.getElem?_eq_some_iff.1 HNx.out).1).trans HNx.out) 6, cellH ((h.block _ (Array.getElem?_eq_some_iff.1 HNx.out).1).trans HNx.out) 7, HAT.out.keep (h) HBL.out⟩)
          have C1 := Lib.hid (upC (Z := wr) HFA2.out)
          go_wp2_with fail
          refine wp_region_turn 8 (fun _ w' => Below wr.heap.size wr w') (by kernel_rfl) (by kernel_rfl) ((Below.refl _ wr).drew) ?_
          simp only [List.take_succ_cons, List.take_zero, List.drop_succ_cons, List.drop_zero]
          iterate 8
            (first
              | (apply turnC_step (by rfl); (intro w' hw'; obtain ⟨zk0, zk1, zk2, zx0, zx1, zx2, zx3, zx4, zx5, zx6, zx7, ⟨f0, f1, f2, f3, f4⟩⟩ := HRD.out w' hw'; go_simp; first | with_reducible exact ⟨hw', rfl⟩ | with_reducible exact rfl))
              | (apply turnC_step (by rfl); (intro w' hw'; go_simp; first | with_reducible exact C1.out w' hw')))
            simp only [Act.put, List.setIfInBounds_toArray, List.set_cons_succ, List.set_cons_zero]
          intro listed w7 _ hb
          have HAT9 := Lib.hid (HAT.out.keep hb HBL.out)
          have HBL9 := Lib.hid (Nat.lt_of_lt_of_le HBL.out hb.size)
          replace HB := Lib.hid (HB.out.trans (hb.mono HB.out.size))
          replace HNk := Lib.hid ((hb.block _ (Array.getElem?_eq_some_iff.1 HNk.out).1).trans HNk.out)
          replace HNx := Lib.hid ((hb.block _ (Array.getElem?_eq_some_iff.1 HNx.out).1).trans HNx.out)
          replace HT := Lib.hid (HT.out.keep hb)
          clear hb
          clear C1
          clear HRD
          have HBW := Lib.hid (Below.refl w7.heap.size w7)
          have zk0 := cellH HNk.out 0
          have zk1 := cellH HNk.out 1
          have zk2 := cellH HNk.out 2
          have zx0 := cellH HNx.out 0
          have zx1 := cellH HNx.out 1
          have zx2 := cellH HNx.out 2
          have zx3 := cellH HNx.out 3
          have zx4 := cellH HNx.out 4
          have zx5 := cellH HNx.out 5
          have zx6 := cellH HNx.out 6
          have zx7 := cellH HNx.out 7
          simp only [List.getElem?_toArray, List.getElem?_cons_zero, List.getElem?_cons_succ] at zk0 zk1 zk2 zx0 zx1 zx2 zx3 zx4 zx5 zx6 zx7
          obtain ⟨f0, f1, f2, f3, f4⟩ := HAT9.out
          obtain ⟨CB, hCB⟩ : ∃ C, (p2 - D == YL && (decide (lo < 0) || decide (p0 < lo))) = C := ⟨_, rfl⟩
          have HCB := Lib.hid hCB
          clear hCB
          go_upto_region 16 with fail
          go_cut [82] (fun x wx => Hid (x = .bool CB) ∧ Hid (Below w7.heap.size w7 wx))
          case first =>
            cases a1 : (p2 - D == YL)
            · have HM := Lib.hid (show CB = false by rw [← HCB.out, a1]; rfl)
              go_quiet (fail)
              go_wp2_with fail
              go_meet
              exact ⟨Lib.hid (by rw [HM.out]), Lib.hid (by first | exact belowN HBW.out _ | exact HBW.out.drew)⟩
            · cases a2 : decide (lo < 0)
              · have an : ¬ lo < 0 := of_decide_eq_false a2
                cases a3 : decide (p0 < lo)
                · have am : ¬ p0 < lo := of_decide_eq_false a3
                  have HM := Lib.hid (show CB = false by rw [← HCB.out, a1, a2, a3]; rfl)
                  go_quiet (fail)
                  go_wp2_with fail
                  go_meet
                  exact ⟨Lib.hid (by rw [HM.out]), Lib.hid (by first | exact belowN HBW.out _ | exact HBW.out.drew)⟩
                · have am : p0 < lo := of_decide_eq_true a3
                  have HM := Lib.hid (show CB = true by rw [← HCB.out, a1, a2, a3]; rfl)
                  go_quiet (fail)
                  go_wp2_with fail
                  go_meet
                  exact ⟨Lib.hid (by rw [HM.out]), Lib.hid (by first | exact belowN HBW.out _ | exact HBW.out.drew)⟩
              · have an : lo < 0 := of_decide_eq_true a2
                have HM := Lib.hid (show CB = true by rw [← HCB.out, a1, a2]; rfl)
                go_quiet (fail)
                go_wp2_with fail
                go_meet
                exact ⟨Lib.hid (by rw [HM.out]), Lib.hid (by first | exact belowN HBW.out _ | exact HBW.out.drew)⟩
          case rest =>
            obtain ⟨hx1, hbc⟩ := hcut
            have hx1 := hx1.out
            subst hx1
            have hb := hbc.out
            replace HAT9 := Lib.hid (HAT9.out.keep hb HBL9.out)
            have HBL9 := Lib.hid (Nat.lt_of_lt_of_le HBL9.out hb.size)
            clear zk0 zk1 zk2 zx0 zx1 zx2 zx3 zx4 zx5 zx6 zx7
            clear f0 f1 f2 f3 f4 hbc HBW
            replace HB := Lib.hid (HB.out.trans (hb.mono HB.out.size))
            replace HNk := Lib.hid ((hb.block _ (Array.getElem?_eq_some_iff.1 HNk.out).1).trans HNk.out)
            replace HNx := Lib.hid ((hb.block _ (Array.getElem?_eq_some_iff.1 HNx.out).1).trans HNx.out)
            replace HT := Lib.hid (HT.out.keep hb)
            clear hb
            obtain ⟨NLO, hNLO⟩ : ∃ q, (if CB = true then p0 else lo) = q := ⟨_, rfl⟩
            have HNLO : Hid (NLO = bif CB then p0 else lo) := Lib.hid (by rw [← hNLO]; cases CB <;> rfl)
            have HMM0 : Hid (rNl (fun h => lowI z7 h t) YL S1 (TL.take (k + 1)) = NLO) := Lib.hid (by rw [HN1.out, HCB.out]; exact hNLO)
            clear hNLO
            obtain ⟨wz0, hwz0⟩ : ∃ q, wc = q := ⟨_, rfl⟩
            rw [hwz0] at HB HT HAT9 HBL9 HNk HNx
            obtain ⟨f0, f1, f2, f3, f4⟩ := HAT9.out
            have hwz0 := hwz0.symm
            subst hwz0
            go_upto_if 82 with fail
            go_cut [13] (fun x wx => Hid (x = .int .i64 NLO) ∧ wx = wz0)
            case first =>
              cases CB
              · go_wp2_with fail
                go_meet
                exact ⟨Lib.hid (by rw [HNLO.out]; rfl), rfl⟩
              · go_wp2_with fail
                go_meet
                exact ⟨Lib.hid (by rw [HNLO.out]; rfl), rfl⟩
            case rest =>
              obtain ⟨hx1, hwc⟩ := hcut
              have hx1 := hx1.out
              subst hx1
              have hwc := hwc.symm
              subst hwc
              clear f0 f1 f2 f3 f4
              have HBW := Lib.hid (Below.refl wz0.heap.size wz0)
              have zk0 := cellH HNk.out 0
              have zk1 := cellH HNk.out 1
              have zk2 := cellH HNk.out 2
              have zx0 := cellH HNx.out 0
              have zx1 := cellH HNx.out 1
              have zx2 := cellH HNx.out 2
              have zx3 := cellH HNx.out 3
              have zx4 := cellH HNx.out 4
              have zx5 := cellH HNx.out 5
              have zx6 := cellH HNx.out 6
              have zx7 := cellH HNx.out 7
              simp only [List.getElem?_toArray, List.getElem?_cons_zero, List.getElem?_cons_succ] at zk0 zk1 zk2 zx0 zx1 zx2 zx3 zx4 zx5 zx6 zx7
              obtain ⟨f0, f1, f2, f3, f4⟩ := HAT9.out
              obtain ⟨CB, hCB⟩ : ∃ C, (p3 + D == YH && (decide (hi < 0) || decide (p0 < hi))) = C := ⟨_, rfl⟩
              have HCB := Lib.hid hCB
              clear hCB
              go_upto_region 18 with fail
              go_cut [113] (fun x wx => Hid (x = .bool CB) ∧ Hid (Below wz0.heap.size wz0 wx))
              case first =>
                cases a1 : (p3 + D == YH)
                · have HM := Lib.hid (show CB = false by rw [← HCB.out, a1]; rfl)
                  go_quiet (fail)
                  go_wp2_with fail
                  go_meet
                  exact ⟨Lib.hid (by rw [HM.out]), Lib.hid (by first | exact belowN HBW.out _ | exact HBW.out.drew)⟩
                · cases a2 : decide (hi < 0)
                  · have an : ¬ hi < 0 := of_decide_eq_false a2
                    cases a3 : decide (p0 < hi)
                    · have am : ¬ p0 < hi := of_decide_eq_false a3
                      have HM := Lib.hid (show CB = false by rw [← HCB.out, a1, a2, a3]; rfl)
                      go_quiet (fail)
                      go_wp2_with fail
                      go_meet
                      exact ⟨Lib.hid (by rw [HM.out]), Lib.hid (by first | exact belowN HBW.out _ | exact HBW.out.drew)⟩
                    · have am : p0 < hi := of_decide_eq_true a3
                      have HM := Lib.hid (show CB = true by rw [← HCB.out, a1, a2, a3]; rfl)
                      go_quiet (fail)
                      go_wp2_with fail
                      go_meet
                      exact ⟨Lib.hid (by rw [HM.out]), Lib.hid (by first | exact belowN HBW.out _ | exact HBW.out.drew)⟩
                  · have an : hi < 0 := of_decide_eq_true a2
                    have HM := Lib.hid (show CB = true by rw [← HCB.out, a1, a2]; rfl)
                    go_quiet (fail)
                    go_wp2_with fail
                    go_meet
                    exact ⟨Lib.hid (by rw [HM.out]), Lib.hid (by first | exact belowN HBW.out _ | exact HBW.out.drew)⟩
              case rest =>
                obtain ⟨hx1, hbc⟩ := hcut
                have hx1 := hx1.out
                subst hx1
                have hb := hbc.out
                replace HAT9 := Lib.hid (HAT9.out.keep hb HBL9.out)
                have HBL9 := Lib.hid (Nat.lt_of_lt_of_le HBL9.out hb.size)
                clear zk0 zk1 zk2 zx0 zx1 zx2 zx3 zx4 zx5 zx6 zx7
                clear f0 f1 f2 f3 f4 hbc HBW
                replace HB := Lib.hid (HB.out.trans (hb.mono HB.out.size))
                replace HNk := Lib.hid ((hb.block _ (Array.getElem?_eq_some_iff.1 HNk.out).1).trans HNk.out)
                replace HNx := Lib.hid ((hb.block _ (Array.getElem?_eq_some_iff.1 HNx.out).1).trans HNx.out)
                replace HT := Lib.hid (HT.out.keep hb)
                clear hb
                obtain ⟨NHI, hNHI⟩ : ∃ q, (if CB = true then p0 else hi) = q := ⟨_, rfl⟩
                have HNHI : Hid (NHI = bif CB then p0 else hi) := Lib.hid (by rw [← hNHI]; cases CB <;> rfl)
                have HMM1 : Hid (rNl (fun h => highI z7 h t) YH S2 (TL.take (k + 1)) = NHI) := Lib.hid (by rw [HN2.out, HCB.out]; exact hNHI)
                clear hNHI
                obtain ⟨wz1, hwz1⟩ : ∃ q, wc = q := ⟨_, rfl⟩
                rw [hwz1] at HB HT HAT9 HBL9 HNk HNx
                obtain ⟨f0, f1, f2, f3, f4⟩ := HAT9.out
                have hwz1 := hwz1.symm
                subst hwz1
                cases CB
                · have hq := HNHI.out
                  subst hq
                  go_wp2_with fail
                  go_roundw
                  case rel => exact ⟨k + 1, _, _, HKL.out, rfl, rfl, by go_num, Lib.hid ⟨HMM0.out.symm, HMM1.out.symm⟩, HB, HNk, HNx, HT⟩
                  case measure => have := HKL.out; simp [intOf]; omega
                · have hq := HNHI.out
                  subst hq
                  go_wp2_with fail
                  go_roundw
                  case rel => exact ⟨k + 1, _, _, HKL.out, rfl, rfl, by go_num, Lib.hid ⟨HMM0.out.symm, HMM1.out.symm⟩, HB, HNk, HNx, HT⟩
                  case measure => have := HKL.out; simp [intOf]; omega
        · obtain rfl : k = TL.length := by omega
          have HF : Hid (max 0 lo = RL ∧ max 0 hi = RH) := Lib.hid ⟨by rw [HL3.out.1, hV.out.1, List.take_length], by rw [HL3.out.2, hV.out.2, List.take_length]⟩
          go_wp2_with fail
          go_ret3
          exact ⟨by rw [← HF.out.1, ← HF.out.2]; rfl, HB.out⟩
end Go.Proofs.Ytpaihnjgpookjaa
