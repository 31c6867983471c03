/- Package firetowerref05: Extreme. -/
import Derived.Test.YtebdboacmeafaaaGreatCJ2
import Derived.Test.YtebdboacmeafaaaGreatCF7
set_option linter.unusedVariables false
set_option linter.unusedSimpArgs false
namespace Go.Proofs.YtebdboacmeafaaaGreat
open Go Go.RowKit

theorem set4 {w W : World} {q : Nat} {t : TypeId} {x0 x1 x2 x3 : Value} (h : W.heap[q]? = some (Obj.cells #[x0, x1, x2, x3] t (0, 0))) (hb : Below w.heap.size w W) (hq : w.heap.size ≤ q) (y0 y1 y2 y3 : Value) :
    ((((W.setCell ⟨q, 0, none⟩ y0).setCell ⟨q, 1, none⟩ y1).setCell ⟨q, 2, none⟩ y2).setCell ⟨q, 3, none⟩ y3).heap[q]? = some (Obj.cells #[y0, y1, y2, y3] t (0, 0)) ∧ Below w.heap.size w ((((W.setCell ⟨q, 0, none⟩ y0).setCell ⟨q, 1, none⟩ y1).setCell ⟨q, 2, none⟩ y2).setCell ⟨q, 3, none⟩ y3) := by
  have s0 := setS ⟨h, hb⟩ hq 0 y0
  have s1 := setS s0 hq 1 y1
  have s2 := setS s1 hq 2 y2
  have s3 := setS s2 hq 3 y3
  simp only [List.setIfInBounds_toArray, List.set_cons_zero, List.set_cons_succ] at s3
  exact s3
theorem info_ze4 : (Tryz.prog.info? 43).map (·.size) = some 4 := by kernel_rfl
/-- One end of a span. -/
def enP (high : Bool) (p : Pi2) : Int := bif high then p.2 else p.1
def ExHit (F : Option Ci) (ks : List Ck) (id lo hi : Int) (high : Bool) (e : Ending) (w' : World) : Prop := ∃ z v, F = some z ∧ e = .returned (.agg #[.int .i64 id, .int .i64 lo, v, .int .i64 0]) ∧ INRow w' v ((spN z.dr (thL z ks) lo (hi - lo + 1).toNat).map (enP high))
theorem ExHit.mk {F : Option Ci} {ks : List Ck} {id lo hi : Int} {high : Bool} {e : Ending} {w' : World} {z : Ci} {v : Value} (h1 : F = some z) (h2 : e = .returned (.agg #[.int .i64 id, .int .i64 lo, v, .int .i64 0])) (h3 : INRow w' v ((spN z.dr (thL z ks) lo (hi - lo + 1).toNat).map (enP high))) : ExHit F ks id lo hi high e w' := ⟨z, v, h1, h2, h3⟩
/-- What Extreme answers. -/
def ExOut (cs : List Ci) (ks : List Ck) (id lo hi : Int) (high : Bool) (w : World) (e : Ending) (w' : World) : Prop :=
  Below w.heap.size w w' ∧ (snE cs ks id lo hi ≠ 0 → e = .returned (.agg #[.int .i64 0, .int .i64 0, .slice none 0 0, .int .i64 (snE cs ks id lo hi)])) ∧
    (snE cs ks id lo hi = 0 → ExHit (ciF cs id) ks id lo hi high e w')
/-- The code by way of use. -/
theorem sn_use {cs : List Ci} {ks : List Ck} {id lo hi : Int} : (usE cs ks id lo hi ≠ 0 → snE cs ks id lo hi = usE cs ks id lo hi) ∧ (usE cs ks id lo hi = 0 → ∃ z, ciF cs id = some z ∧ ccE cs ks = 0 ∧ (0 ≤ lo ∧ lo ≤ hi ∧ hi ≤ 1048576) ∧ (400 ≤ hi - lo → snE cs ks id lo hi = 2) ∧ (hi - lo < 400 → (0 < (gAll z.dr (thL z ks) (thL z ks).length).length → snE cs ks id lo hi = 9) ∧ (¬ 0 < (gAll z.dr (thL z ks) (thL z ks).length).length → snE cs ks id lo hi = 0))) := by
  by_cases hc : ccE cs ks = 0
  · have e1 : snE cs ks id lo hi = diE (ciF cs id) ks lo hi := by unfold snE; rw [if_pos hc]
    rw [e1]
    cases hf : ciF cs id with
    | none =>
      have e2 : usE cs ks id lo hi = 5 := by unfold usE; rw [if_pos hc, hf]
      rw [e2]
      exact ⟨fun _ => rfl, fun h => absurd h (by decide)⟩
    | some z =>
      have e2 : usE cs ks id lo hi = if (decide (hi < lo) || decide (lo < z.f) || decide (z.t < hi)) = true then 1 else 0 := by unfold usE; rw [if_pos hc, hf]
      have ho := ccE_ok hc
      have hzo := Ci.ok_iff.1 (ciF_ok ho hf)
      obtain ⟨d1, d2, d3, d4⟩ := di_some (z := z) (ks := ks) (lo := lo) (hi := hi)
      by_cases hq : (decide (hi < lo) || decide (lo < z.f) || decide (z.t < hi)) = true
      · rw [e2, if_pos hq]
        refine ⟨fun _ => ?_, fun h => absurd h (by decide)⟩
        unfold diE; simp only; rw [if_pos hq]
      · rw [e2, if_neg hq]
        simp only [Bool.or_eq_true, decide_eq_true_eq, not_or] at hq
        refine ⟨fun h => absurd rfl h, fun _ => ⟨z, rfl, hc, by omega, fun h => (d4 (by omega) (by omega) (by omega)).1 h, fun h => ?_⟩⟩
        have d5 := (d4 (by omega) (by omega) (by omega)).2 h
        rw [gAll_eq ho]
        refine ⟨fun h1 => d5.1 ?_, fun h1 => d5.2 ?_⟩
        · unfold ctB
          cases hl : clL z.dr (dlL z ks) with
          | nil => rw [hl] at h1; simp at h1
          | cons a l => rfl
        · unfold ctB
          cases hl : clL z.dr (dlL z ks) with
          | nil => rfl
          | cons a l => rw [hl] at h1; simp at h1
  · have e1 : snE cs ks id lo hi = ccE cs ks := by unfold snE; rw [if_neg hc]
    have e2 : usE cs ks id lo hi = ccE cs ks := by unfold usE; rw [if_neg hc]
    rw [e1, e2]
    exact ⟨fun _ => rfl, fun h => absurd h hc⟩
def OwIn (w : World) (B : Nat) (v : Value) (n : Nat) (l : List Int) : Prop := w.ownsRow B 3 1 v n (l.map (Value.int .i64))
theorem OwIn.keep {A C : World} {B n : Nat} {v : Value} {l : List Int} (h : OwIn A B v n l) (hb : Below A.heap.size A C) : OwIn C B v n l := ownBelow h hb
set_option maxRecDepth 100000 in
set_option maxHeartbeats 8000000 in
theorem Extreme_any (v1 v2 : Value) (cs : List Ci) (ks : List Ck) (id lo hi : Int) (high : Bool) (w : World) (hv1 : CiRow w v1 cs) (hv2 : CkRow w v2 ks) (hl1 : cs.length ≤ 9223372036854775807) (hl2 : ks.length ≤ 9223372036854775807) :
    Calls Tryz.prog 16 #[.agg #[v1, v2], .int .i64 id, .agg #[.int .i64 lo, .int .i64 hi], .bool high] w fun e w' => ExOut cs ks id lo hi high w e w' := by
  obtain ⟨a1, c1, rfl, _⟩ := hv1.form
  obtain ⟨a2, c2, rfl, _⟩ := hv2.form
  have HUS := Lib.hid (fun w' (h : Below w.heap.size w w') => use_any (.slice a1 cs.length c1) (.slice a2 ks.length c2) cs ks id lo hi w' (hv1.keep h) (hv2.keep h) hl1 hl2)
  have HCG := Lib.hid (fun (ho : CcOk cs ks) z (hz : ciF cs z.id = some z) w' (h : Below w.heap.size w w') => clashing_any (.slice a1 cs.length c1) (.slice a2 ks.length c2) cs ks z w' (hv1.keep h) (hv2.keep h) ho hz)
  have HTH := Lib.hid (fun (ho : CcOk cs ks) z (hz : ciF cs z.id = some z) w' (h : Below w.heap.size w w') => things_any (.slice a1 cs.length c1) (.slice a2 ks.length c2) cs ks z w' (hv1.keep h) (hv2.keep h) ho hz)
  have HMEM := Lib.hid (fun z => ciF_mem (l := cs) (id := id) (k := z))
  have HS1 := Lib.hid (sn_use (cs := cs) (ks := ks) (id := id) (lo := lo) (hi := hi)).1
  have HS2 := Lib.hid (sn_use (cs := cs) (ks := ks) (id := id) (lo := lo) (hi := hi)).2
  unfold ClgOut at HCG
  unfold ThgOut at HTH
  unfold UsOut at HUS
  unfold ExOut
  obtain ⟨UE, hUE⟩ : ∃ q, usE cs ks id lo hi = q := ⟨_, rfl⟩
  obtain ⟨E, hE⟩ : ∃ q, snE cs ks id lo hi = q := ⟨_, rfl⟩
  obtain ⟨F, hF⟩ : ∃ q, ciF cs id = q := ⟨_, rfl⟩
  rw [hUE] at HUS HS1 HS2
  rw [hE] at HS1 ⊢
  simp only [hE, hF] at HS2 HUS HMEM
  rw [hF]
  have HFF := Lib.hid hF
  obtain ⟨i0, hi0, hz0, hz1, hz2⟩ := info_parts info_in1
  clear hv1 hv2 hl1 hl2 hE hF hUE
  obtain ⟨x0, x1, x2, xlt, xb⟩ := cells3 w #[.slice a1 cs.length c1, .slice a2 ks.length c2] #[.int .i64 lo, .int .i64 hi] #[.int .i64 0, .int .i64 0, .slice none 0 0, .int .i64 0] 25 36 43 (Below.refl _ _)
  have HNc : Hid ((((w.alloc (.cells #[.slice a1 cs.length c1, .slice a2 ks.length c2] 25)).alloc (.cells #[.int .i64 lo, .int .i64 hi] 36)).alloc (.cells #[.int .i64 0, .int .i64 0, .slice none 0 0, .int .i64 0] 43)).heap[w.heap.size]? = some (.cells #[.slice a1 cs.length c1, .slice a2 ks.length c2] 25 (0, 0))) := Lib.hid x0
  have HNt : Hid ((((w.alloc (.cells #[.slice a1 cs.length c1, .slice a2 ks.length c2] 25)).alloc (.cells #[.int .i64 lo, .int .i64 hi] 36)).alloc (.cells #[.int .i64 0, .int .i64 0, .slice none 0 0, .int .i64 0] 43)).heap[w.heap.size + 1]? = some (.cells #[.int .i64 lo, .int .i64 hi] 36 (0, 0))) := Lib.hid x1
  have HNr : Hid ((((w.alloc (.cells #[.slice a1 cs.length c1, .slice a2 ks.length c2] 25)).alloc (.cells #[.int .i64 lo, .int .i64 hi] 36)).alloc (.cells #[.int .i64 0, .int .i64 0, .slice none 0 0, .int .i64 0] 43)).heap[w.heap.size + 1 + 1]? = some (.cells #[.int .i64 0, .int .i64 0, .slice none 0 0, .int .i64 0] 43 (0, 0))) := Lib.hid x2
  have HB : Hid (Below w.heap.size w (((w.alloc (.cells #[.slice a1 cs.length c1, .slice a2 ks.length c2] 25)).alloc (.cells #[.int .i64 lo, .int .i64 hi] 36)).alloc (.cells #[.int .i64 0, .int .i64 0, .slice none 0 0, .int .i64 0] 43))) := Lib.hid xb
  obtain ⟨Z, hZ⟩ : ∃ Z, (((w.alloc (.cells #[.slice a1 cs.length c1, .slice a2 ks.length c2] 25)).alloc (.cells #[.int .i64 lo, .int .i64 hi] 36)).alloc (.cells #[.int .i64 0, .int .i64 0, .slice none 0 0, .int .i64 0] 43)) = Z := ⟨_, rfl⟩
  rw [hZ] at HB HNc HNt HNr
  have HZ := Lib.hid hZ
  clear hZ xlt xb x0 x1 x2
  go_enter Tryz.func16, Tryz.ntmps16
  have zc0 := cellH HNc.out 0
  have zc1 := cellH HNc.out 1
  have zt0 := cellH HNt.out 0
  have zt1 := cellH HNt.out 1
  simp only [List.getElem?_toArray, List.getElem?_cons_zero, List.getElem?_cons_succ] at zc0 zc1 zt0 zt1
  go_wp2_with fail
  rw [HZ.out]
  refine (HUS.out _ HB.out).mono ?_
  rintro e w1 ⟨hb, h1, h2⟩
  clear zc0 zc1 zt0 zt1
  replace HB := Lib.hid (HB.out.trans (hb.mono HB.out.size))
  replace HNc := Lib.hid ((hb.block _ (Array.getElem?_eq_some_iff.1 HNc.out).1).trans HNc.out)
  replace HNt := Lib.hid ((hb.block _ (Array.getElem?_eq_some_iff.1 HNt.out).1).trans HNt.out)
  replace HNr := Lib.hid ((hb.block _ (Array.getElem?_eq_some_iff.1 HNr.out).1).trans HNr.out)
  clear hb
  by_cases h0 : UE = 0
  case neg =>
    have he := h1 h0
    subst he
    have HN := Lib.hid (HS1.out h0)
    have HX := Lib.hid h0
    have gE : (UE != 0) = true := by simpa using h0
    clear h0 h1 h2
    have hAlc : Below w1.heap.size w1 (w1.alloc (.cells #[.int .i64 0, .int .i64 0, .int .i64 0, .int .i64 0, .int .i64 0, .int .i64 0, .int .i64 0, .int .i64 0, .int .i64 UE] 111)) := (Below.refl _ w1).alloc (Nat.le_refl _) _
    have HSu : Hid (w.heap.size ≤ w1.heap.size) := Lib.hid HB.out.size
    have HNu : Hid ((w1.alloc (.cells #[.int .i64 0, .int .i64 0, .int .i64 0, .int .i64 0, .int .i64 0, .int .i64 0, .int .i64 0, .int .i64 0, .int .i64 UE] 111)).heap[w1.heap.size]? = some (.cells #[.int .i64 0, .int .i64 0, .int .i64 0, .int .i64 0, .int .i64 0, .int .i64 0, .int .i64 0, .int .i64 0, .int .i64 UE] 111 (0, 0))) := Lib.hid (heap_alloc_new _ _)
    replace HB := Lib.hid (HB.out.trans (hAlc.mono HB.out.size))
    have HXc_u : Hid (w.heap.size ≠ w1.heap.size) := Lib.hid (Nat.ne_of_lt (Array.getElem?_eq_some_iff.1 HNc.out).1)
    have HXt_u : Hid (w.heap.size + 1 ≠ w1.heap.size) := Lib.hid (Nat.ne_of_lt (Array.getElem?_eq_some_iff.1 HNt.out).1)
    have HXr_u : Hid (w.heap.size + 1 + 1 ≠ w1.heap.size) := Lib.hid (Nat.ne_of_lt (Array.getElem?_eq_some_iff.1 HNr.out).1)
    replace HNc := Lib.hid ((hAlc.block _ (Array.getElem?_eq_some_iff.1 HNc.out).1).trans HNc.out)
    replace HNt := Lib.hid ((hAlc.block _ (Array.getElem?_eq_some_iff.1 HNt.out).1).trans HNt.out)
    replace HNr := Lib.hid ((hAlc.block _ (Array.getElem?_eq_some_iff.1 HNr.out).1).trans HNr.out)
    obtain ⟨au, hau⟩ : ∃ qq, w1.alloc (.cells #[.int .i64 0, .int .i64 0, .int .i64 0, .int .i64 0, .int .i64 0, .int .i64 0, .int .i64 0, .int .i64 0, .int .i64 UE] 111) = qq := ⟨_, rfl⟩
    obtain ⟨bku, hbu⟩ : ∃ qq, w1.heap.size = qq := ⟨_, rfl⟩
    rw [hau] at HB HNu HNc HNt HNr
    rw [hbu] at HNu HSu HXc_u HXt_u HXr_u
    clear hAlc
    have zu0 := cellH HNu.out 0
    have zu1 := cellH HNu.out 1
    have zu2 := cellH HNu.out 2
    have zu3 := cellH HNu.out 3
    have zu4 := cellH HNu.out 4
    have zu5 := cellH HNu.out 5
    have zu6 := cellH HNu.out 6
    have zu7 := cellH HNu.out 7
    have zu8 := cellH HNu.out 8
    simp only [List.getElem?_toArray, List.getElem?_cons_zero, List.getElem?_cons_succ] at zu0 zu1 zu2 zu3 zu4 zu5 zu6 zu7 zu8
    have zr0_3 := cellH HNr.out 0
    have zr1_3 := cellH HNr.out 1
    have zr2_3 := cellH HNr.out 2
    have zr3_3 := cellH HNr.out 3
    simp only [List.getElem?_toArray, List.getElem?_cons_zero, List.getElem?_cons_succ] at zr0_3 zr1_3 zr2_3 zr3_3
    have zfr_3 := freeH HNr.out
    go_wp2_with fail
    try clear hau hbu
    obtain ⟨y1, y2⟩ := set4 HNr.out HB.out (by omega) (.int .i64 0) (.int .i64 0) (.slice none 0 0) (.int .i64 UE)
    refine bodyPost_ret (results_cell_row Tryz.results16 _ _ (w.heap.size + 1 + 1) 43 _ (0, 0) _ rfl y1 Tryz.underlying43 rfl info_ze4) rfl ?_
    exact ⟨y2, (fun _ => by rw [HN.out]), fun h => absurd (HN.out.symm.trans h) HX.out⟩
  have hu := h2 h0
  unfold UsHit at hu
  obtain ⟨z, hz, _, _, rfl⟩ := hu
  obtain ⟨z', hz', hcc, hbd, hs2, hs3⟩ := HS2.out h0
  obtain rfl : z = z' := Option.some.inj (hz.symm.trans hz')
  have HO := Lib.hid (ccE_ok hcc)
  have HZ8 := Lib.hid hz
  have hzi := (HMEM.out z hz).choose_spec.2.2
  have hzz : ciF cs z.id = some z := by rw [hzi, HFF.out]; exact hz
  have HZO := Lib.hid (Ci.ok_iff.1 (ciF_ok HO.out hzz))
  have HOT : Hid (∀ h ∈ thL z ks, h.ok) := Lib.hid (fun h hh => dlL_ok HO.out hzz _ ((srtH_perm _).mem_iff.2 hh))
  have HTL := Lib.hid (thL_len (z := z) HO.out.m)
  have HCG2 := Lib.hid (HCG.out HO.out z hzz)
  have HTH2 := Lib.hid (HTH.out HO.out z hzz)
  have HBD := Lib.hid hbd
  have HSA := Lib.hid hs2
  have HSB := Lib.hid hs3
  obtain ⟨PG, hPG⟩ : ∃ q, gAll z.dr (thL z ks) (thL z ks).length = q := ⟨_, rfl⟩
  obtain ⟨L, hL⟩ : ∃ q, thL z ks = q := ⟨_, rfl⟩
  rw [hPG] at HCG2 HSB
  rw [hL] at HOT HTL HTH2
  have HLEQ := Lib.hid hL
  subst h0
  clear hz hz' hcc hbd hs2 hs3 hzi hzz hPG hL h1 h2 HUS HCG HTH HMEM HS1 HS2 HFF
  obtain ⟨z0, z1, z2, z3, z4, z5, z6, z7⟩ := z
  have HLM := Lib.hid (fun v t w' h1 ht => limits_any ⟨z0, z1, z2, z3, z4, z5, z6, z7⟩ v L t w' h1 (by have := HTL.out; omega) (by have := HZO.out; simp only at this ⊢; omega) ht HOT.out)
  simp only at HCG2 HTH2 HLEQ HLM
  have hAlc : Below w1.heap.size w1 (w1.alloc (.cells #[.int .i64 0, .int .i64 0, .int .i64 0, .int .i64 0, .int .i64 0, .int .i64 0, .int .i64 0, .int .i64 0, .int .i64 0] 111)) := (Below.refl _ w1).alloc (Nat.le_refl _) _
  have HSu : Hid (w.heap.size ≤ w1.heap.size) := Lib.hid HB.out.size
  have HNu : Hid ((w1.alloc (.cells #[.int .i64 0, .int .i64 0, .int .i64 0, .int .i64 0, .int .i64 0, .int .i64 0, .int .i64 0, .int .i64 0, .int .i64 0] 111)).heap[w1.heap.size]? = some (.cells #[.int .i64 0, .int .i64 0, .int .i64 0, .int .i64 0, .int .i64 0, .int .i64 0, .int .i64 0, .int .i64 0, .int .i64 0] 111 (0, 0))) := Lib.hid (heap_alloc_new _ _)
  replace HB := Lib.hid (HB.out.trans (hAlc.mono HB.out.size))
  have HXc_u : Hid (w.heap.size ≠ w1.heap.size) := Lib.hid (Nat.ne_of_lt (Array.getElem?_eq_some_iff.1 HNc.out).1)
  have HXt_u : Hid (w.heap.size + 1 ≠ w1.heap.size) := Lib.hid (Nat.ne_of_lt (Array.getElem?_eq_some_iff.1 HNt.out).1)
  have HXr_u : Hid (w.heap.size + 1 + 1 ≠ w1.heap.size) := Lib.hid (Nat.ne_of_lt (Array.getElem?_eq_some_iff.1 HNr.out).1)
  replace HNc := Lib.hid ((hAlc.block _ (Array.getElem?_eq_some_iff.1 HNc.out).1).trans HNc.out)
  replace HNt := Lib.hid ((hAlc.block _ (Array.getElem?_eq_some_iff.1 HNt.out).1).trans HNt.out)
  replace HNr := Lib.hid ((hAlc.block _ (Array.getElem?_eq_some_iff.1 HNr.out).1).trans HNr.out)
  obtain ⟨au, hau⟩ : ∃ qq, w1.alloc (.cells #[.int .i64 0, .int .i64 0, .int .i64 0, .int .i64 0, .int .i64 0, .int .i64 0, .int .i64 0, .int .i64 0, .int .i64 0] 111) = qq := ⟨_, rfl⟩
  obtain ⟨bku, hbu⟩ : ∃ qq, w1.heap.size = qq := ⟨_, rfl⟩
  rw [hau] at HB HNu HNc HNt HNr
  rw [hbu] at HNu HSu HXc_u HXt_u HXr_u
  clear hAlc
  have zu0 := cellH HNu.out 0
  have zu1 := cellH HNu.out 1
  have zu2 := cellH HNu.out 2
  have zu3 := cellH HNu.out 3
  have zu4 := cellH HNu.out 4
  have zu5 := cellH HNu.out 5
  have zu6 := cellH HNu.out 6
  have zu7 := cellH HNu.out 7
  have zu8 := cellH HNu.out 8
  simp only [List.getElem?_toArray, List.getElem?_cons_zero, List.getElem?_cons_succ] at zu0 zu1 zu2 zu3 zu4 zu5 zu6 zu7 zu8
  have zfu := freeH HNu.out
  replace HNc := Lib.hid ((heap_other au (bku) 0 (.int .i64 z0) _ HXc_u.out).trans HNc.out)
  replace HNt := Lib.hid ((heap_other au (bku) 0 (.int .i64 z0) _ HXt_u.out).trans HNt.out)
  replace HNr := Lib.hid ((heap_other au (bku) 0 (.int .i64 z0) _ HXr_u.out).trans HNr.out)
  replace HNu := Lib.hid (heap_same HNu.out 0 (.int .i64 z0))
  simp only [List.setIfInBounds_toArray, List.set_cons_zero, List.set_cons_succ] at HNu
  replace HB := Lib.hid (HB.out.setCell (p := ⟨bku, 0, none⟩) HSu.out (.int .i64 z0))
  obtain ⟨s2, hs2⟩ : ∃ X, au.setCell ⟨bku, 0, none⟩ (.int .i64 z0) = X := ⟨_, rfl⟩
  rw [hs2] at HB HNc HNt HNr HNu
  have zu0_5 := cellH HNu.out 0
  have zu1_5 := cellH HNu.out 1
  have zu2_5 := cellH HNu.out 2
  have zu3_5 := cellH HNu.out 3
  have zu4_5 := cellH HNu.out 4
  have zu5_5 := cellH HNu.out 5
  have zu6_5 := cellH HNu.out 6
  have zu7_5 := cellH HNu.out 7
  have zu8_5 := cellH HNu.out 8
  simp only [List.getElem?_toArray, List.getElem?_cons_zero, List.getElem?_cons_succ] at zu0_5 zu1_5 zu2_5 zu3_5 zu4_5 zu5_5 zu6_5 zu7_5 zu8_5
  have zfu_5 := freeH HNu.out
  replace HNc := Lib.hid ((heap_other s2 (bku) 1 (.int .i64 z1) _ HXc_u.out).trans HNc.out)
  replace HNt := Lib.hid ((heap_other s2 (bku) 1 (.int .i64 z1) _ HXt_u.out).trans HNt.out)
  replace HNr := Lib.hid ((heap_other s2 (bku) 1 (.int .i64 z1) _ HXr_u.out).trans HNr.out)
  replace HNu := Lib.hid (heap_same HNu.out 1 (.int .i64 z1))
  simp only [List.setIfInBounds_toArray, List.set_cons_zero, List.set_cons_succ] at HNu
  replace HB := Lib.hid (HB.out.setCell (p := ⟨bku, 1, none⟩) HSu.out (.int .i64 z1))
  obtain ⟨s3, hs3⟩ : ∃ X, s2.setCell ⟨bku, 1, none⟩ (.int .i64 z1) = X := ⟨_, rfl⟩
  rw [hs3] at HB HNc HNt HNr HNu
  have zu0_6 := cellH HNu.out 0
  have zu1_6 := cellH HNu.out 1
  have zu2_6 := cellH HNu.out 2
  have zu3_6 := cellH HNu.out 3
  have zu4_6 := cellH HNu.out 4
  have zu5_6 := cellH HNu.out 5
  have zu6_6 := cellH HNu.out 6
  have zu7_6 := cellH HNu.out 7
  have zu8_6 := cellH HNu.out 8
  simp only [List.getElem?_toArray, List.getElem?_cons_zero, List.getElem?_cons_succ] at zu0_6 zu1_6 zu2_6 zu3_6 zu4_6 zu5_6 zu6_6 zu7_6 zu8_6
  have zfu_6 := freeH HNu.out
  replace HNc := Lib.hid ((heap_other s3 (bku) 2 (.int .i64 z2) _ HXc_u.out).trans HNc.out)
  replace HNt := Lib.hid ((heap_other s3 (bku) 2 (.int .i64 z2) _ HXt_u.out).trans HNt.out)
  replace HNr := Lib.hid ((heap_other s3 (bku) 2 (.int .i64 z2) _ HXr_u.out).trans HNr.out)
  replace HNu := Lib.hid (heap_same HNu.out 2 (.int .i64 z2))
  simp only [List.setIfInBounds_toArray, List.set_cons_zero, List.set_cons_succ] at HNu
  replace HB := Lib.hid (HB.out.setCell (p := ⟨bku, 2, none⟩) HSu.out (.int .i64 z2))
  obtain ⟨s4, hs4⟩ : ∃ X, s3.setCell ⟨bku, 2, none⟩ (.int .i64 z2) = X := ⟨_, rfl⟩
  rw [hs4] at HB HNc HNt HNr HNu
  have zu0_7 := cellH HNu.out 0
  have zu1_7 := cellH HNu.out 1
  have zu2_7 := cellH HNu.out 2
  have zu3_7 := cellH HNu.out 3
  have zu4_7 := cellH HNu.out 4
  have zu5_7 := cellH HNu.out 5
  have zu6_7 := cellH HNu.out 6
  have zu7_7 := cellH HNu.out 7
  have zu8_7 := cellH HNu.out 8
  simp only [List.getElem?_toArray, List.getElem?_cons_zero, List.getElem?_cons_succ] at zu0_7 zu1_7 zu2_7 zu3_7 zu4_7 zu5_7 zu6_7 zu7_7 zu8_7
  have zfu_7 := freeH HNu.out
  replace HNc := Lib.hid ((heap_other s4 (bku) 3 (.int .i64 z3) _ HXc_u.out).trans HNc.out)
  replace HNt := Lib.hid ((heap_other s4 (bku) 3 (.int .i64 z3) _ HXt_u.out).trans HNt.out)
  replace HNr := Lib.hid ((heap_other s4 (bku) 3 (.int .i64 z3) _ HXr_u.out).trans HNr.out)
  replace HNu := Lib.hid (heap_same HNu.out 3 (.int .i64 z3))
  simp only [List.setIfInBounds_toArray, List.set_cons_zero, List.set_cons_succ] at HNu
  replace HB := Lib.hid (HB.out.setCell (p := ⟨bku, 3, none⟩) HSu.out (.int .i64 z3))
  obtain ⟨s5, hs5⟩ : ∃ X, s4.setCell ⟨bku, 3, none⟩ (.int .i64 z3) = X := ⟨_, rfl⟩
  rw [hs5] at HB HNc HNt HNr HNu
  have zu0_8 := cellH HNu.out 0
  have zu1_8 := cellH HNu.out 1
  have zu2_8 := cellH HNu.out 2
  have zu3_8 := cellH HNu.out 3
  have zu4_8 := cellH HNu.out 4
  have zu5_8 := cellH HNu.out 5
  have zu6_8 := cellH HNu.out 6
  have zu7_8 := cellH HNu.out 7
  have zu8_8 := cellH HNu.out 8
  simp only [List.getElem?_toArray, List.getElem?_cons_zero, List.getElem?_cons_succ] at zu0_8 zu1_8 zu2_8 zu3_8 zu4_8 zu5_8 zu6_8 zu7_8 zu8_8
  have zfu_8 := freeH HNu.out
  replace HNc := Lib.hid ((heap_other s5 (bku) 4 (.int .i64 z4) _ HXc_u.out).trans HNc.out)
  replace HNt := Lib.hid ((heap_other s5 (bku) 4 (.int .i64 z4) _ HXt_u.out).trans HNt.out)
  replace HNr := Lib.hid ((heap_other s5 (bku) 4 (.int .i64 z4) _ HXr_u.out).trans HNr.out)
  replace HNu := Lib.hid (heap_same HNu.out 4 (.int .i64 z4))
  simp only [List.setIfInBounds_toArray, List.set_cons_zero, List.set_cons_succ] at HNu
  replace HB := Lib.hid (HB.out.setCell (p := ⟨bku, 4, none⟩) HSu.out (.int .i64 z4))
  obtain ⟨s6, hs6⟩ : ∃ X, s5.setCell ⟨bku, 4, none⟩ (.int .i64 z4) = X := ⟨_, rfl⟩
  rw [hs6] at HB HNc HNt HNr HNu
  have zu0_9 := cellH HNu.out 0
  have zu1_9 := cellH HNu.out 1
  have zu2_9 := cellH HNu.out 2
  have zu3_9 := cellH HNu.out 3
  have zu4_9 := cellH HNu.out 4
  have zu5_9 := cellH HNu.out 5
  have zu6_9 := cellH HNu.out 6
  have zu7_9 := cellH HNu.out 7
  have zu8_9 := cellH HNu.out 8
  simp only [List.getElem?_toArray, List.getElem?_cons_zero, List.getElem?_cons_succ] at zu0_9 zu1_9 zu2_9 zu3_9 zu4_9 zu5_9 zu6_9 zu7_9 zu8_9
  have zfu_9 := freeH HNu.out
  replace HNc := Lib.hid ((heap_other s6 (bku) 5 (.int .i64 z5) _ HXc_u.out).trans HNc.out)
  replace HNt := Lib.hid ((heap_other s6 (bku) 5 (.int .i64 z5) _ HXt_u.out).trans HNt.out)
  replace HNr := Lib.hid ((heap_other s6 (bku) 5 (.int .i64 z5) _ HXr_u.out).trans HNr.out)
  replace HNu := Lib.hid (heap_same HNu.out 5 (.int .i64 z5))
  simp only [List.setIfInBounds_toArray, List.set_cons_zero, List.set_cons_succ] at HNu
  replace HB := Lib.hid (HB.out.setCell (p := ⟨bku, 5, none⟩) HSu.out (.int .i64 z5))
  obtain ⟨s7, hs7⟩ : ∃ X, s6.setCell ⟨bku, 5, none⟩ (.int .i64 z5) = X := ⟨_, rfl⟩
  rw [hs7] at HB HNc HNt HNr HNu
  have zu0_10 := cellH HNu.out 0
  have zu1_10 := cellH HNu.out 1
  have zu2_10 := cellH HNu.out 2
  have zu3_10 := cellH HNu.out 3
  have zu4_10 := cellH HNu.out 4
  have zu5_10 := cellH HNu.out 5
  have zu6_10 := cellH HNu.out 6
  have zu7_10 := cellH HNu.out 7
  have zu8_10 := cellH HNu.out 8
  simp only [List.getElem?_toArray, List.getElem?_cons_zero, List.getElem?_cons_succ] at zu0_10 zu1_10 zu2_10 zu3_10 zu4_10 zu5_10 zu6_10 zu7_10 zu8_10
  have zfu_10 := freeH HNu.out
  replace HNc := Lib.hid ((heap_other s7 (bku) 6 (.int .i64 z6) _ HXc_u.out).trans HNc.out)
  replace HNt := Lib.hid ((heap_other s7 (bku) 6 (.int .i64 z6) _ HXt_u.out).trans HNt.out)
  replace HNr := Lib.hid ((heap_other s7 (bku) 6 (.int .i64 z6) _ HXr_u.out).trans HNr.out)
  replace HNu := Lib.hid (heap_same HNu.out 6 (.int .i64 z6))
  simp only [List.setIfInBounds_toArray, List.set_cons_zero, List.set_cons_succ] at HNu
  replace HB := Lib.hid (HB.out.setCell (p := ⟨bku, 6, none⟩) HSu.out (.int .i64 z6))
  obtain ⟨s8, hs8⟩ : ∃ X, s7.setCell ⟨bku, 6, none⟩ (.int .i64 z6) = X := ⟨_, rfl⟩
  rw [hs8] at HB HNc HNt HNr HNu
  have zu0_11 := cellH HNu.out 0
  have zu1_11 := cellH HNu.out 1
  have zu2_11 := cellH HNu.out 2
  have zu3_11 := cellH HNu.out 3
  have zu4_11 := cellH HNu.out 4
  have zu5_11 := cellH HNu.out 5
  have zu6_11 := cellH HNu.out 6
  have zu7_11 := cellH HNu.out 7
  have zu8_11 := cellH HNu.out 8
  simp only [List.getElem?_toArray, List.getElem?_cons_zero, List.getElem?_cons_succ] at zu0_11 zu1_11 zu2_11 zu3_11 zu4_11 zu5_11 zu6_11 zu7_11 zu8_11
  have zfu_11 := freeH HNu.out
  replace HNc := Lib.hid ((heap_other s8 (bku) 7 (.int .i64 z7) _ HXc_u.out).trans HNc.out)
  replace HNt := Lib.hid ((heap_other s8 (bku) 7 (.int .i64 z7) _ HXt_u.out).trans HNt.out)
  replace HNr := Lib.hid ((heap_other s8 (bku) 7 (.int .i64 z7) _ HXr_u.out).trans HNr.out)
  replace HNu := Lib.hid (heap_same HNu.out 7 (.int .i64 z7))
  simp only [List.setIfInBounds_toArray, List.set_cons_zero, List.set_cons_succ] at HNu
  replace HB := Lib.hid (HB.out.setCell (p := ⟨bku, 7, none⟩) HSu.out (.int .i64 z7))
  obtain ⟨s9, hs9⟩ : ∃ X, s8.setCell ⟨bku, 7, none⟩ (.int .i64 z7) = X := ⟨_, rfl⟩
  rw [hs9] at HB HNc HNt HNr HNu
  have zu0_12 := cellH HNu.out 0
  have zu1_12 := cellH HNu.out 1
  have zu2_12 := cellH HNu.out 2
  have zu3_12 := cellH HNu.out 3
  have zu4_12 := cellH HNu.out 4
  have zu5_12 := cellH HNu.out 5
  have zu6_12 := cellH HNu.out 6
  have zu7_12 := cellH HNu.out 7
  have zu8_12 := cellH HNu.out 8
  simp only [List.getElem?_toArray, List.getElem?_cons_zero, List.getElem?_cons_succ] at zu0_12 zu1_12 zu2_12 zu3_12 zu4_12 zu5_12 zu6_12 zu7_12 zu8_12
  have zfu_12 := freeH HNu.out
  replace HNc := Lib.hid ((heap_other s9 (bku) 8 (.int .i64 0) _ HXc_u.out).trans HNc.out)
  replace HNt := Lib.hid ((heap_other s9 (bku) 8 (.int .i64 0) _ HXt_u.out).trans HNt.out)
  replace HNr := Lib.hid ((heap_other s9 (bku) 8 (.int .i64 0) _ HXr_u.out).trans HNr.out)
  replace HNu := Lib.hid (heap_same HNu.out 8 (.int .i64 0))
  simp only [List.setIfInBounds_toArray, List.set_cons_zero, List.set_cons_succ] at HNu
  replace HB := Lib.hid (HB.out.setCell (p := ⟨bku, 8, none⟩) HSu.out (.int .i64 0))
  obtain ⟨s10, hs10⟩ : ∃ X, s9.setCell ⟨bku, 8, none⟩ (.int .i64 0) = X := ⟨_, rfl⟩
  rw [hs10] at HB HNc HNt HNr HNu
  have zc0_13 := cellH HNc.out 0
  have zc1_13 := cellH HNc.out 1
  have zt0_13 := cellH HNt.out 0
  have zt1_13 := cellH HNt.out 1
  have zu0_13 := cellH HNu.out 0
  have zu1_13 := cellH HNu.out 1
  have zu2_13 := cellH HNu.out 2
  have zu3_13 := cellH HNu.out 3
  have zu4_13 := cellH HNu.out 4
  have zu5_13 := cellH HNu.out 5
  have zu6_13 := cellH HNu.out 6
  have zu7_13 := cellH HNu.out 7
  have zu8_13 := cellH HNu.out 8
  simp only [List.getElem?_toArray, List.getElem?_cons_zero, List.getElem?_cons_succ] at zc0_13 zc1_13 zt0_13 zt1_13 zu0_13 zu1_13 zu2_13 zu3_13 zu4_13 zu5_13 zu6_13 zu7_13 zu8_13
  have zr0_14 := cellH HNr.out 0
  have zr1_14 := cellH HNr.out 1
  have zr2_14 := cellH HNr.out 2
  have zr3_14 := cellH HNr.out 3
  simp only [List.getElem?_toArray, List.getElem?_cons_zero, List.getElem?_cons_succ] at zr0_14 zr1_14 zr2_14 zr3_14
  have zfr_14 := freeH HNr.out
  have hbd := HBD.out
  have gw : IntKind.i64.wrap (hi - lo) = hi - lo := IntWalk.i64_in _ (by omega)
  clear hbd
  by_cases h4 : 400 ≤ hi - lo
  case pos =>
    have HN := Lib.hid (HSA.out h4)
    go_wp2_with fail
    try clear hau hbu hs2 hs3 hs4 hs5 hs6 hs7 hs8 hs9 hs10
    obtain ⟨y1, y2⟩ := set4 HNr.out HB.out (by omega) (.int .i64 0) (.int .i64 0) (.slice none 0 0) (.int .i64 2)
    refine bodyPost_ret (results_cell_row Tryz.results16 _ _ (w.heap.size + 1 + 1) 43 _ (0, 0) _ rfl y1 Tryz.underlying43 rfl info_ze4) rfl ?_
    exact ⟨y2, (fun _ => by rw [HN.out]), fun h => absurd (HN.out.symm.trans h) (by decide)⟩
  have HL4 := Lib.hid (Int.not_le.1 h4)
  replace HSB := Lib.hid (HSB.out (Int.not_le.1 h4))
  go_wp2_with fail
  try clear hau hbu hs2 hs3 hs4 hs5 hs6 hs7 hs8 hs9 hs10
  refine (HCG2.out _ HB.out).mono ?_
  rintro e w11 ⟨pv, rfl, hp, hb⟩
  obtain ⟨pa, pc, rfl, _⟩ := hp.form
  clear hp
  clear zu0 zu1 zu2 zu3 zu4 zu5 zu6 zu7 zu8 zfu zu0_5 zu1_5 zu2_5 zu3_5 zu4_5 zu5_5 zu6_5 zu7_5 zu8_5 zfu_5 zu0_6 zu1_6 zu2_6 zu3_6 zu4_6 zu5_6 zu6_6 zu7_6 zu8_6 zfu_6 zu0_7 zu1_7 zu2_7 zu3_7 zu4_7 zu5_7 zu6_7 zu7_7 zu8_7 zfu_7 zu0_8 zu1_8 zu2_8 zu3_8 zu4_8 zu5_8 zu6_8 zu7_8 zu8_8 zfu_8 zu0_9 zu1_9 zu2_9 zu3_9 zu4_9 zu5_9 zu6_9 zu7_9 zu8_9 zfu_9 zu0_10 zu1_10 zu2_10 zu3_10 zu4_10 zu5_10 zu6_10 zu7_10 zu8_10 zfu_10 zu0_11 zu1_11 zu2_11 zu3_11 zu4_11 zu5_11 zu6_11 zu7_11 zu8_11 zfu_11 zu0_12 zu1_12 zu2_12 zu3_12 zu4_12 zu5_12 zu6_12 zu7_12 zu8_12 zfu_12 zc0_13 zc1_13 zt0_13 zt1_13 zu0_13 zu1_13 zu2_13 zu3_13 zu4_13 zu5_13 zu6_13 zu7_13 zu8_13 zr0_14 zr1_14 zr2_14 zr3_14 zfr_14
  clear h4 gw
  replace HB := Lib.hid (HB.out.trans (hb.mono HB.out.size))
  replace HNc := Lib.hid ((hb.block _ (Array.getElem?_eq_some_iff.1 HNc.out).1).trans HNc.out)
  replace HNt := Lib.hid ((hb.block _ (Array.getElem?_eq_some_iff.1 HNt.out).1).trans HNt.out)
  replace HNr := Lib.hid ((hb.block _ (Array.getElem?_eq_some_iff.1 HNr.out).1).trans HNr.out)
  replace HNu := Lib.hid ((hb.block _ (Array.getElem?_eq_some_iff.1 HNu.out).1).trans HNu.out)
  clear hb
  by_cases h9 : 0 < PG.length
  case pos =>
    have HN := Lib.hid (HSB.out.1 h9)
    have gl : (0 : Int) < (PG.length : Int) := by omega
    have gl2 : decide ((0 : Int) < (PG.length : Int)) = true := decide_eq_true gl
    have zr0 := cellH HNr.out 0
    have zr1 := cellH HNr.out 1
    have zr2 := cellH HNr.out 2
    have zr3 := cellH HNr.out 3
    simp only [List.getElem?_toArray, List.getElem?_cons_zero, List.getElem?_cons_succ] at zr0 zr1 zr2 zr3
    have zfr := freeH HNr.out
    go_wp2_with fail
    obtain ⟨y1, y2⟩ := set4 HNr.out HB.out (by omega) (.int .i64 0) (.int .i64 0) (.slice none 0 0) (.int .i64 9)
    refine bodyPost_ret (results_cell_row Tryz.results16 _ _ (w.heap.size + 1 + 1) 43 _ (0, 0) _ rfl y1 Tryz.underlying43 rfl info_ze4) rfl ?_
    exact ⟨y2, (fun _ => by rw [HN.out]), fun h => absurd (HN.out.symm.trans h) (by decide)⟩
  have HN := Lib.hid (HSB.out.2 h9)
  have gl : ¬ (0 : Int) < (PG.length : Int) := by omega
  have gl2 : decide ((0 : Int) < (PG.length : Int)) = false := decide_eq_false gl
  clear h9 HSA HSB
  have zc0 := cellH HNc.out 0
  have zc1 := cellH HNc.out 1
  have zu0 := cellH HNu.out 0
  have zu1 := cellH HNu.out 1
  have zu2 := cellH HNu.out 2
  have zu3 := cellH HNu.out 3
  have zu4 := cellH HNu.out 4
  have zu5 := cellH HNu.out 5
  have zu6 := cellH HNu.out 6
  have zu7 := cellH HNu.out 7
  have zu8 := cellH HNu.out 8
  simp only [List.getElem?_toArray, List.getElem?_cons_zero, List.getElem?_cons_succ] at zc0 zc1 zu0 zu1 zu2 zu3 zu4 zu5 zu6 zu7 zu8
  go_wp2_with fail
  refine (HTH2.out _ HB.out).mono ?_
  rintro e w12 ⟨tv, rfl, ht, hb⟩
  obtain ⟨ta, tc, rfl, _⟩ := ht.form
  have HT := Lib.hid ht
  clear ht gl gl2
  clear zc0 zc1 zu0 zu1 zu2 zu3 zu4 zu5 zu6 zu7 zu8
  replace HB := Lib.hid (HB.out.trans (hb.mono HB.out.size))
  replace HNc := Lib.hid ((hb.block _ (Array.getElem?_eq_some_iff.1 HNc.out).1).trans HNc.out)
  replace HNt := Lib.hid ((hb.block _ (Array.getElem?_eq_some_iff.1 HNt.out).1).trans HNt.out)
  replace HNr := Lib.hid ((hb.block _ (Array.getElem?_eq_some_iff.1 HNr.out).1).trans HNr.out)
  replace HNu := Lib.hid ((hb.block _ (Array.getElem?_eq_some_iff.1 HNu.out).1).trans HNu.out)
  clear hb HCG2 HTH2
  obtain ⟨N, hN⟩ : ∃ q, (hi - lo + 1).toNat = q := ⟨_, rfl⟩
  have HNQ := Lib.hid hN
  have HNN := Lib.hid (show (N : Int) = hi - lo + 1 ∧ N ≤ 400 by have := HBD.out; have := HL4.out; omega)
  obtain ⟨TN, hTN⟩ : ∃ q, L.length = q := ⟨_, rfl⟩
  rw [hTN] at HT ⊢
  clear hN hTN
  have HWB := Lib.hid HB.out.size
  have HBW := HB
  have HQ : Hid (BlC w12 w12) := Lib.hid (Below.refl _ _)
  have HNcW := HNc
  have HNtW := HNt
  have HNrW := HNr
  have HNuW := HNu
  have zt0 := cellH HNt.out 0
  have zt1 := cellH HNt.out 1
  simp only [List.getElem?_toArray, List.getElem?_cons_zero, List.getElem?_cons_succ] at zt0 zt1
  have hAlc : Below w12.heap.size w12 (w12.alloc (.cells #[.int .i64 0, .int .i64 0, .slice none 0 0] 38)) := (Below.refl _ w12).alloc (Nat.le_refl _) _
  have HSo : Hid (w.heap.size ≤ w12.heap.size) := Lib.hid HB.out.size
  have HNo : Hid ((w12.alloc (.cells #[.int .i64 0, .int .i64 0, .slice none 0 0] 38)).heap[w12.heap.size]? = some (.cells #[.int .i64 0, .int .i64 0, .slice none 0 0] 38 (0, 0))) := Lib.hid (heap_alloc_new _ _)
  replace HB := Lib.hid (HB.out.trans (hAlc.mono HB.out.size))
  have HXc_o : Hid (w.heap.size ≠ w12.heap.size) := Lib.hid (Nat.ne_of_lt (Array.getElem?_eq_some_iff.1 HNc.out).1)
  have HXt_o : Hid (w.heap.size + 1 ≠ w12.heap.size) := Lib.hid (Nat.ne_of_lt (Array.getElem?_eq_some_iff.1 HNt.out).1)
  have HXr_o : Hid (w.heap.size + 1 + 1 ≠ w12.heap.size) := Lib.hid (Nat.ne_of_lt (Array.getElem?_eq_some_iff.1 HNr.out).1)
  have HXu_o : Hid (bku ≠ w12.heap.size) := Lib.hid (Nat.ne_of_lt (Array.getElem?_eq_some_iff.1 HNu.out).1)
  replace HNc := Lib.hid ((hAlc.block _ (Array.getElem?_eq_some_iff.1 HNc.out).1).trans HNc.out)
  replace HNt := Lib.hid ((hAlc.block _ (Array.getElem?_eq_some_iff.1 HNt.out).1).trans HNt.out)
  replace HNr := Lib.hid ((hAlc.block _ (Array.getElem?_eq_some_iff.1 HNr.out).1).trans HNr.out)
  replace HNu := Lib.hid ((hAlc.block _ (Array.getElem?_eq_some_iff.1 HNu.out).1).trans HNu.out)
  replace HQ := Lib.hid (HQ.out.keep hAlc)
  obtain ⟨ao, hao⟩ : ∃ qq, w12.alloc (.cells #[.int .i64 0, .int .i64 0, .slice none 0 0] 38) = qq := ⟨_, rfl⟩
  obtain ⟨bko, hbo⟩ : ∃ qq, w12.heap.size = qq := ⟨_, rfl⟩
  rw [hao] at HB HNo HNc HNt HNr HNu HQ
  rw [hbo] at HNo HSo HXc_o HXt_o HXr_o HXu_o
  clear hAlc
  have hW2 : w12.heap.size = bko := hbo
  have zo0_18 := cellH HNo.out 0
  have zo1_18 := cellH HNo.out 1
  have zo2_18 := cellH HNo.out 2
  simp only [List.getElem?_toArray, List.getElem?_cons_zero, List.getElem?_cons_succ] at zo0_18 zo1_18 zo2_18
  have zfo_18 := freeH HNo.out
  replace HNc := Lib.hid ((heap_other ao (bko) 0 (.int .i64 id) _ HXc_o.out).trans HNc.out)
  replace HNt := Lib.hid ((heap_other ao (bko) 0 (.int .i64 id) _ HXt_o.out).trans HNt.out)
  replace HNr := Lib.hid ((heap_other ao (bko) 0 (.int .i64 id) _ HXr_o.out).trans HNr.out)
  replace HNu := Lib.hid ((heap_other ao (bko) 0 (.int .i64 id) _ HXu_o.out).trans HNu.out)
  replace HNo := Lib.hid (heap_same HNo.out 0 (.int .i64 id))
  simp only [List.setIfInBounds_toArray, List.set_cons_zero, List.set_cons_succ] at HNo
  replace HB := Lib.hid (HB.out.setCell (p := ⟨bko, 0, none⟩) HSo.out (.int .i64 id))
  replace HQ := Lib.hid (HQ.out.set (Nat.le_of_eq hW2) 0 (.int .i64 id))
  obtain ⟨s13, hs13⟩ : ∃ X, ao.setCell ⟨bko, 0, none⟩ (.int .i64 id) = X := ⟨_, rfl⟩
  rw [hs13] at HB HNc HNt HNr HNu HNo HQ
  have zo0_19 := cellH HNo.out 0
  have zo1_19 := cellH HNo.out 1
  have zo2_19 := cellH HNo.out 2
  simp only [List.getElem?_toArray, List.getElem?_cons_zero, List.getElem?_cons_succ] at zo0_19 zo1_19 zo2_19
  have zfo_19 := freeH HNo.out
  replace HNc := Lib.hid ((heap_other s13 (bko) 1 (.int .i64 lo) _ HXc_o.out).trans HNc.out)
  replace HNt := Lib.hid ((heap_other s13 (bko) 1 (.int .i64 lo) _ HXt_o.out).trans HNt.out)
  replace HNr := Lib.hid ((heap_other s13 (bko) 1 (.int .i64 lo) _ HXr_o.out).trans HNr.out)
  replace HNu := Lib.hid ((heap_other s13 (bko) 1 (.int .i64 lo) _ HXu_o.out).trans HNu.out)
  replace HNo := Lib.hid (heap_same HNo.out 1 (.int .i64 lo))
  simp only [List.setIfInBounds_toArray, List.set_cons_zero, List.set_cons_succ] at HNo
  replace HB := Lib.hid (HB.out.setCell (p := ⟨bko, 1, none⟩) HSo.out (.int .i64 lo))
  replace HQ := Lib.hid (HQ.out.set (Nat.le_of_eq hW2) 1 (.int .i64 lo))
  obtain ⟨s14, hs14⟩ : ∃ X, s13.setCell ⟨bko, 1, none⟩ (.int .i64 lo) = X := ⟨_, rfl⟩
  rw [hs14] at HB HNc HNt HNr HNu HNo HQ
  have zo0_20 := cellH HNo.out 0
  have zo1_20 := cellH HNo.out 1
  have zo2_20 := cellH HNo.out 2
  simp only [List.getElem?_toArray, List.getElem?_cons_zero, List.getElem?_cons_succ] at zo0_20 zo1_20 zo2_20
  have zfo_20 := freeH HNo.out
  replace HNc := Lib.hid ((heap_other s14 (bko) 2 (.slice none 0 0) _ HXc_o.out).trans HNc.out)
  replace HNt := Lib.hid ((heap_other s14 (bko) 2 (.slice none 0 0) _ HXt_o.out).trans HNt.out)
  replace HNr := Lib.hid ((heap_other s14 (bko) 2 (.slice none 0 0) _ HXr_o.out).trans HNr.out)
  replace HNu := Lib.hid ((heap_other s14 (bko) 2 (.slice none 0 0) _ HXu_o.out).trans HNu.out)
  replace HNo := Lib.hid (heap_same HNo.out 2 (.slice none 0 0))
  simp only [List.setIfInBounds_toArray, List.set_cons_zero, List.set_cons_succ] at HNo
  replace HB := Lib.hid (HB.out.setCell (p := ⟨bko, 2, none⟩) HSo.out (.slice none 0 0))
  replace HQ := Lib.hid (HQ.out.set (Nat.le_of_eq hW2) 2 (.slice none 0 0))
  obtain ⟨s15, hs15⟩ : ∃ X, s14.setCell ⟨bko, 2, none⟩ (.slice none 0 0) = X := ⟨_, rfl⟩
  rw [hs15] at HB HNc HNt HNr HNu HNo HQ
  have HW2 := Lib.hid hW2
  clear hW2
  have zt0_21 := cellH HNt.out 0
  have zt1_21 := cellH HNt.out 1
  simp only [List.getElem?_toArray, List.getElem?_cons_zero, List.getElem?_cons_succ] at zt0_21 zt1_21
  have HOW : Hid (OwI s15 w12.heap.size (.slice none 0 0) ((spN z7 L lo 0).map (enP high))) := Lib.hid ⟨rfl, .inl ⟨rfl, rfl⟩⟩
  go_wp2_with fail
  try clear hao hbo hs13 hs14 hs15
  clear zt0 zt1 zo0_18 zo1_18 zo2_18 zfo_18 zo0_19 zo1_19 zo2_19 zfo_19 zo0_20 zo1_20 zo2_20 zfo_20 zt0_21 zt1_21
  clear HNc HNr
  go_loopw [12] (fun t wr => ∃ (j : Nat) (o : Value), j ≤ N ∧ t = .int .i64 (lo + (j : Int)) ∧ Hid (OwI wr w12.heap.size o ((spN z7 L lo j).map (enP high))) ∧ Hid (Below w.heap.size w wr) ∧ Hid (wr.heap[w.heap.size + 1]? = some (.cells #[.int .i64 lo, .int .i64 hi] 36 (0, 0))) ∧ Hid (wr.heap[bku]? = some (.cells #[.int .i64 z0, .int .i64 z1, .int .i64 z2, .int .i64 z3, .int .i64 z4, .int .i64 z5, .int .i64 z6, .int .i64 z7, .int .i64 0] 111 (0, 0))) ∧ Hid (wr.heap[bko]? = some (.cells #[.int .i64 id, .int .i64 lo, o] 38 (0, 0))) ∧ Hid (BlC w12 wr)) (fun t _ => (hi + 1 - intOf t).toNat)
  case atStart => exact ⟨0, _, Nat.zero_le _, by simp, HOW, HB, HNt, HNu, HNo, HQ⟩
  case round =>
    clear HB HNt HNu HNo HQ
    clear HOW
    obtain ⟨j, o, hj, rfl, HOW, HB, HNt, HNu, HNo, HQ⟩ := hrel
    have hbd := HBD.out
    have hnn := HNN.out
    by_cases hjl : j < N
    · have HJL := Lib.hid hjl
      obtain ⟨oa, oc, rfl⟩ := row_formC HOW.out
      have HSC : Hid ((spN z7 L lo (j + 1)).map (enP high) = (spN z7 L lo j).map (enP high) ++ [enP high (spLo z7 L (lo + j), spHi z7 L (lo + j))]) := Lib.hid (by rw [spN_succ, List.map_append]; rfl)
      have hln : ((spN z7 L lo j).map (enP high)).length ≤ 400 := by rw [List.length_map, spN_len]; omega
      have HLJ := Lib.hid (fun w' h1 => HLM.out (.slice ta TN tc) (lo + j) w' h1 ⟨by omega, by omega⟩)
      obtain ⟨T, hT⟩ : ∃ q, lo + (j : Int) = q := ⟨_, rfl⟩
      have HTS := Lib.hid (show lo + ((j + 1 : Nat) : Int) = T + 1 by omega)
      have ht1 : T ≤ hi := by omega
      have HTB := Lib.hid (show T ≤ hi ∧ 0 ≤ T ∧ T ≤ 1048576 ∧ hi ≤ 1048576 by omega)
      rw [hT] at HSC HLJ
      rw [hT]
      obtain ⟨SL, hSL⟩ : ∃ q, spLo z7 L T = q := ⟨_, rfl⟩
      obtain ⟨SH, hSH⟩ : ∃ q, spHi z7 L T = q := ⟨_, rfl⟩
      rw [hSL, hSH] at HSC HLJ
      obtain ⟨FL, hFL⟩ : ∃ q, (spN z7 L lo j).map (enP high) = q := ⟨_, rfl⟩
      rw [hFL] at HSC HOW HNo hln
      obtain ⟨n, hn⟩ : ∃ q, FL.length = q := ⟨_, rfl⟩
      have HFN := Lib.hid hn
      rw [hn] at HOW HNo hln
      have hown := HOW.out
      unfold OwI at hown
      rw [hn] at hown
      have HOWn := Lib.hid hown
      clear hown
      have HLNN := Lib.hid hln
      have HTR := Lib.hid (HT.out.keep HQ.out)
      clear hT hSL hSH hFL hn hbd hnn hjl hj hln
      have HOW : Hid (OwIn wr w12.heap.size (.slice oa n oc) n FL) := HOWn
      clear HOWn
      have zt0 := cellH HNt.out 0
      have zt1 := cellH HNt.out 1
      have zu0 := cellH HNu.out 0
      have zu1 := cellH HNu.out 1
      have zu2 := cellH HNu.out 2
      have zu3 := cellH HNu.out 3
      have zu4 := cellH HNu.out 4
      have zu5 := cellH HNu.out 5
      have zu6 := cellH HNu.out 6
      have zu7 := cellH HNu.out 7
      have zu8 := cellH HNu.out 8
      simp only [List.getElem?_toArray, List.getElem?_cons_zero, List.getElem?_cons_succ] at zt0 zt1 zu0 zu1 zu2 zu3 zu4 zu5 zu6 zu7 zu8
      go_wp2_with fail
      refine (HLJ.out _ HTR.out).mono ?_
      rintro e w16 ⟨rfl, hb⟩
      clear zt0 zt1 zu0 zu1 zu2 zu3 zu4 zu5 zu6 zu7 zu8
      clear ht1
      replace HB := Lib.hid (HB.out.trans (hb.mono HB.out.size))
      replace HNt := Lib.hid ((hb.block _ (Array.getElem?_eq_some_iff.1 HNt.out).1).trans HNt.out)
      replace HNu := Lib.hid ((hb.block _ (Array.getElem?_eq_some_iff.1 HNu.out).1).trans HNu.out)
      replace HNo := Lib.hid ((hb.block _ (Array.getElem?_eq_some_iff.1 HNo.out).1).trans HNo.out)
      replace HQ := Lib.hid (HQ.out.keep hb)
      replace HOW := Lib.hid (HOW.out.keep hb)
      clear hb HTR HLJ
      have hAlc : Below w16.heap.size w16 (w16.alloc (.cells #[.int .i64 SL, .int .i64 SH] 36)) := (Below.refl _ w16).alloc (Nat.le_refl _) _
      have HSsp : Hid (w.heap.size ≤ w16.heap.size) := Lib.hid HB.out.size
      have HNsp : Hid ((w16.alloc (.cells #[.int .i64 SL, .int .i64 SH] 36)).heap[w16.heap.size]? = some (.cells #[.int .i64 SL, .int .i64 SH] 36 (0, 0))) := Lib.hid (heap_alloc_new _ _)
      replace HB := Lib.hid (HB.out.trans (hAlc.mono HB.out.size))
      have HXt_sp : Hid (w.heap.size + 1 ≠ w16.heap.size) := Lib.hid (Nat.ne_of_lt (Array.getElem?_eq_some_iff.1 HNt.out).1)
      have HXu_sp : Hid (bku ≠ w16.heap.size) := Lib.hid (Nat.ne_of_lt (Array.getElem?_eq_some_iff.1 HNu.out).1)
      have HXo_sp : Hid (bko ≠ w16.heap.size) := Lib.hid (Nat.ne_of_lt (Array.getElem?_eq_some_iff.1 HNo.out).1)
      replace HNt := Lib.hid ((hAlc.block _ (Array.getElem?_eq_some_iff.1 HNt.out).1).trans HNt.out)
      replace HNu := Lib.hid ((hAlc.block _ (Array.getElem?_eq_some_iff.1 HNu.out).1).trans HNu.out)
      replace HNo := Lib.hid ((hAlc.block _ (Array.getElem?_eq_some_iff.1 HNo.out).1).trans HNo.out)
      replace HQ := Lib.hid (HQ.out.keep hAlc)
      replace HOW := Lib.hid (HOW.out.keep hAlc)
      obtain ⟨asp, hasp⟩ : ∃ qq, w16.alloc (.cells #[.int .i64 SL, .int .i64 SH] 36) = qq := ⟨_, rfl⟩
      obtain ⟨bksp, hbsp⟩ : ∃ qq, w16.heap.size = qq := ⟨_, rfl⟩
      rw [hasp] at HB HNsp HNt HNu HNo HQ HOW
      rw [hbsp] at HNsp HSsp HXt_sp HXu_sp HXo_sp
      clear hAlc
      cases high
      case false =>
        have zsp0 := cellH HNsp.out 0
        have zsp1 := cellH HNsp.out 1
        simp only [List.getElem?_toArray, List.getElem?_cons_zero, List.getElem?_cons_succ] at zsp0 zsp1
        have zo0_24 := cellH HNo.out 0
        have zo1_24 := cellH HNo.out 1
        have zo2_24 := cellH HNo.out 2
        simp only [List.getElem?_toArray, List.getElem?_cons_zero, List.getElem?_cons_succ] at zo0_24 zo1_24 zo2_24
        have zfo_24 := freeH HNo.out
        have hO7 := World.ownsRow.alloc HOW.out (.cells #[.int .i64 SL] 3)
        have HQ7 := Lib.hid (HQ.out.keep ((Below.refl asp.heap.size asp).alloc (Nat.le_refl _) (.cells #[.int .i64 SL] 3)))
        have HNo7 := Lib.hid ((gNe asp (.cells #[.int .i64 SL] 3) bko (Nat.ne_of_lt (Array.getElem?_eq_some_iff.1 HNo.out).1)).trans HNo.out)
        have hbase : w12.heap.size ≤ (asp.alloc (.cells #[.int .i64 SL] 3)).heap.size := Below.size HQ7.out
        have hln := HLNN.out
        have hlen : n + 1 ≤ maxLen := by unfold maxLen; omega
        have hby : (n + 1) * 8 ≤ 140737488355328 := by omega
        go_wp2_with (at_builtin; go_loud (
          refine wpList_append_own _ rfl _ _ 26 rfl w12.heap.size 3 i0 (.int .i64 0) 1 8 Tryz.underlying26 hi0 hz0 hz1 hz2 rfl (by decide) _ _ _ rfl hO7 ⟨asp.heap.size, 0, none⟩ 1 1 [.int .i64 SL] rfl rfl (fun j u h => cell_one' _ _ _ j u h) (by simp [Value.oneCell']) hlen hby hbase ?_
          intro v' w8 hown' hgrow _
          obtain ⟨ua, uc, rfl⟩ := row_formC hown'
          have HNo8 := Lib.hid ((hgrow.block _ (Array.getElem?_eq_some_iff.1 HNo7.out).1 (fun e => own_neC hO7 HNo7.out (by decide) e.symm)).trans HNo7.out)
          have HQ8 : Hid (BlC w12 w8) := Lib.hid (Below.grown HQ7.out hgrow (Below.size HQ7.out) (fun j e => (World.ownsRow.lt hO7 j e).1))
          have HO8 := Lib.hid hown'
          have y0 := cellH HNo8.out 0
          have y1 := cellH HNo8.out 1
          have y2 := cellH HNo8.out 2
          have yf := freeH HNo8.out
          simp only [List.getElem?_toArray, List.getElem?_cons_zero, List.getElem?_cons_succ] at y0 y1 y2
          obtain ⟨htb1, htb2, htb3, htb4⟩ := HTB.out
          clear hown' hgrow hO7 hln hlen hby hbase))
        have HNoE := Lib.hid (heap_same HNo8.out 2 (.slice ua (n + 1) uc))
        simp only [List.setIfInBounds_toArray, List.set_cons_zero, List.set_cons_succ] at HNoE
        have HQE := Lib.hid (HQ8.out.set (Nat.le_of_eq HW2.out) 2 (.slice ua (n + 1) uc))
        have HOE := Lib.hid (own_setC HO8.out HNo8.out (by decide) 2 (.slice ua (n + 1) uc))
        have HBE := Lib.hid (HBW.out.trans (Below.mono HQE.out HWB.out))
        have HNtE := Lib.hid ((Below.block HQE.out _ (Array.getElem?_eq_some_iff.1 HNtW.out).1).trans HNtW.out)
        have HNuE := Lib.hid ((Below.block HQE.out _ (Array.getElem?_eq_some_iff.1 HNuW.out).1).trans HNuW.out)
        go_roundw
        case rel => exact ⟨j + 1, _, HJL.out, by rw [HTS.out], Lib.hid (by rw [HSC.out]; unfold OwI; rw [List.length_append, List.map_append, HFN.out]; exact HOE.out), HBE, HNtE, HNuE, HNoE, HQE⟩
        case measure => simp [intOf]; omega
        try clear hasp hbsp
      case true =>
        have zsp0 := cellH HNsp.out 0
        have zsp1 := cellH HNsp.out 1
        simp only [List.getElem?_toArray, List.getElem?_cons_zero, List.getElem?_cons_succ] at zsp0 zsp1
        have zo0_26 := cellH HNo.out 0
        have zo1_26 := cellH HNo.out 1
        have zo2_26 := cellH HNo.out 2
        simp only [List.getElem?_toArray, List.getElem?_cons_zero, List.getElem?_cons_succ] at zo0_26 zo1_26 zo2_26
        have zfo_26 := freeH HNo.out
        have hO7 := World.ownsRow.alloc HOW.out (.cells #[.int .i64 SH] 3)
        have HQ7 := Lib.hid (HQ.out.keep ((Below.refl asp.heap.size asp).alloc (Nat.le_refl _) (.cells #[.int .i64 SH] 3)))
        have HNo7 := Lib.hid ((gNe asp (.cells #[.int .i64 SH] 3) bko (Nat.ne_of_lt (Array.getElem?_eq_some_iff.1 HNo.out).1)).trans HNo.out)
        have hbase : w12.heap.size ≤ (asp.alloc (.cells #[.int .i64 SH] 3)).heap.size := Below.size HQ7.out
        have hln := HLNN.out
        have hlen : n + 1 ≤ maxLen := by unfold maxLen; omega
        have hby : (n + 1) * 8 ≤ 140737488355328 := by omega
        go_wp2_with (at_builtin; go_loud (
          refine wpList_append_own _ rfl _ _ 26 rfl w12.heap.size 3 i0 (.int .i64 0) 1 8 Tryz.underlying26 hi0 hz0 hz1 hz2 rfl (by decide) _ _ _ rfl hO7 ⟨asp.heap.size, 0, none⟩ 1 1 [.int .i64 SH] rfl rfl (fun j u h => cell_one' _ _ _ j u h) (by simp [Value.oneCell']) hlen hby hbase ?_
          intro v' w8 hown' hgrow _
          obtain ⟨ua, uc, rfl⟩ := row_formC hown'
          have HNo8 := Lib.hid ((hgrow.block _ (Array.getElem?_eq_some_iff.1 HNo7.out).1 (fun e => own_neC hO7 HNo7.out (by decide) e.symm)).trans HNo7.out)
          have HQ8 : Hid (BlC w12 w8) := Lib.hid (Below.grown HQ7.out hgrow (Below.size HQ7.out) (fun j e => (World.ownsRow.lt hO7 j e).1))
          have HO8 := Lib.hid hown'
          have y0 := cellH HNo8.out 0
          have y1 := cellH HNo8.out 1
          have y2 := cellH HNo8.out 2
          have yf := freeH HNo8.out
          simp only [List.getElem?_toArray, List.getElem?_cons_zero, List.getElem?_cons_succ] at y0 y1 y2
          obtain ⟨htb1, htb2, htb3, htb4⟩ := HTB.out
          clear hown' hgrow hO7 hln hlen hby hbase))
        have HNoE := Lib.hid (heap_same HNo8.out 2 (.slice ua (n + 1) uc))
        simp only [List.setIfInBounds_toArray, List.set_cons_zero, List.set_cons_succ] at HNoE
        have HQE := Lib.hid (HQ8.out.set (Nat.le_of_eq HW2.out) 2 (.slice ua (n + 1) uc))
        have HOE := Lib.hid (own_setC HO8.out HNo8.out (by decide) 2 (.slice ua (n + 1) uc))
        have HBE := Lib.hid (HBW.out.trans (Below.mono HQE.out HWB.out))
        have HNtE := Lib.hid ((Below.block HQE.out _ (Array.getElem?_eq_some_iff.1 HNtW.out).1).trans HNtW.out)
        have HNuE := Lib.hid ((Below.block HQE.out _ (Array.getElem?_eq_some_iff.1 HNuW.out).1).trans HNuW.out)
        go_roundw
        case rel => exact ⟨j + 1, _, HJL.out, by rw [HTS.out], Lib.hid (by rw [HSC.out]; unfold OwI; rw [List.length_append, List.map_append, HFN.out]; exact HOE.out), HBE, HNtE, HNuE, HNoE, HQE⟩
        case measure => simp [intOf]; omega
        try clear hasp hbsp
    · obtain rfl : j = N := by omega
      have hj1 : ¬ lo + (j : Int) ≤ hi := by omega
      obtain ⟨oa, oc, rfl⟩ := row_formC HOW.out
      obtain ⟨FL, hFL⟩ : ∃ q, (spN z7 L lo j).map (enP high) = q := ⟨_, rfl⟩
      have HFQ := Lib.hid hFL
      rw [hFL] at HOW HNo
      have HNr := Lib.hid ((Below.block HQ.out _ (Array.getElem?_eq_some_iff.1 HNrW.out).1).trans HNrW.out)
      clear hbd hnn hjl hj hFL
      have zt0 := cellH HNt.out 0
      have zt1 := cellH HNt.out 1
      have zo0 := cellH HNo.out 0
      have zo1 := cellH HNo.out 1
      have zo2 := cellH HNo.out 2
      simp only [List.getElem?_toArray, List.getElem?_cons_zero, List.getElem?_cons_succ] at zt0 zt1 zo0 zo1 zo2
      have zr0_28 := cellH HNr.out 0
      have zr1_28 := cellH HNr.out 1
      have zr2_28 := cellH HNr.out 2
      have zr3_28 := cellH HNr.out 3
      simp only [List.getElem?_toArray, List.getElem?_cons_zero, List.getElem?_cons_succ] at zr0_28 zr1_28 zr2_28 zr3_28
      have zfr_28 := freeH HNr.out
      go_wp2_with fail
      obtain ⟨y1, y2⟩ := set4 HNr.out HB.out (by omega) (.int .i64 id) (.int .i64 lo) (.slice oa FL.length oc) (.int .i64 0)
      refine bodyPost_ret (results_cell_row Tryz.results16 _ _ (w.heap.size + 1 + 1) 43 _ (0, 0) _ rfl y1 Tryz.underlying43 rfl info_ze4) rfl ?_
      exact ⟨y2, (fun h => absurd HN.out h), fun _ => ExHit.mk HZ8.out rfl (by rw [HNQ.out, HLEQ.out, HFQ.out]; exact OwI.row (oi_set (oi_set (oi_set (oi_set HOW.out HNr.out (by decide) 0 _) (heap_same HNr.out 0 _) (by decide) 1 _) (heap_same (heap_same HNr.out 0 _) 1 _) (by decide) 2 _) (heap_same (heap_same (heap_same HNr.out 0 _) 1 _) 2 _) (by decide) 3 _))⟩
end Go.Proofs.YtebdboacmeafaaaGreat
