/- Package circle: dialIn. -/
import Derived.Test.YtebdboacmeafaaaGreatCI2
set_option linter.unusedVariables false
set_option linter.unusedSimpArgs false
namespace Go.Proofs.YtebdboacmeafaaaGreat
open Go Go.RowKit

/-- The code that dialIn answers. -/
def diE (R : Option Ci) (ks : List Ck) (lo hi : Int) : Int :=
  match R with
  | none => 5
  | some z => if (decide (hi < lo) || decide (lo < z.f) || decide (z.t < hi)) = true then 1 else (if 400 ≤ hi - lo then 2 else (if ctB z.dr (dlL z ks) = true then 9 else 0))
/-- The answer of dialIn. -/
def DinOut (R : Option Ci) (ks : List Ck) (lo hi : Int) (w : World) (e : Ending) (w' : World) : Prop :=
  Below w.heap.size w w' ∧ (diE R ks lo hi ≠ 0 → e = .returned (.tuple #[dl0, .int .i64 (diE R ks lo hi)])) ∧ (diE R ks lo hi = 0 → ∃ z v, R = some z ∧ e = .returned (.tuple #[dlV z v, .int .i64 0]) ∧ ThRow w' v (dlL z ks))
theorem di_some {z : Ci} {ks : List Ck} {lo hi : Int} :
    (hi < lo → diE (some z) ks lo hi = 1) ∧ (lo ≤ hi → lo < z.f → diE (some z) ks lo hi = 1) ∧ (lo ≤ hi → z.f ≤ lo → z.t < hi → diE (some z) ks lo hi = 1) ∧ (lo ≤ hi → z.f ≤ lo → hi ≤ z.t → (400 ≤ hi - lo → diE (some z) ks lo hi = 2) ∧ (hi - lo < 400 → (ctB z.dr (dlL z ks) = true → diE (some z) ks lo hi = 9) ∧ (ctB z.dr (dlL z ks) = false → diE (some z) ks lo hi = 0))) := by
  refine ⟨fun h => ?_, fun h1 h => ?_, fun h1 h2 h => ?_, fun h1 h2 h3 => ⟨fun h => ?_, fun h => ⟨fun h4 => ?_, fun h4 => ?_⟩⟩⟩
  · unfold diE; simp only; rw [if_pos (by simp [h])]
  · unfold diE; simp only; rw [if_pos (by simp [h])]
  · unfold diE; simp only; rw [if_pos (by simp [h])]
  · unfold diE; simp only; rw [if_neg (by simp; omega), if_pos h]
  · unfold diE; simp only; rw [if_neg (by simp; omega), if_neg (by omega), if_pos h4]
  · unfold diE; simp only; rw [if_neg (by simp; omega), if_neg (by omega), if_neg (by rw [h4]; simp)]
set_option maxRecDepth 100000 in
set_option maxHeartbeats 8000000 in
theorem dialIn_any (v1 v2 : Value) (cs : List Ci) (ks : List Ck) (id lo hi : Int) (w : World) (hv1 : CiRow w v1 cs) (hv2 : CkRow w v2 ks) (ho : CcOk cs ks) :
    Calls Tryz.prog 117 #[.agg #[v1, v2], .int .i64 id, .agg #[.int .i64 lo, .int .i64 hi]] w fun e w' => DinOut (ciF cs id) ks lo hi w e w' := by
  obtain ⟨a1, c1, rfl, _⟩ := hv1.form
  obtain ⟨a2, c2, rfl, _⟩ := hv2.form
  have HDO := Lib.hid (fun w' (h : Below w.heap.size w w') => dialOf_one (.slice a1 cs.length c1) (.slice a2 ks.length c2) cs ks id w' (hv1.keep h) (hv2.keep h) ho)
  have HTT := Lib.hid (fun z h => dlL_ok ho (id := id) (z := z) h)
  have HCI := Lib.hid (fun z h => ciF_ok ho (id := id) (z := z) h)
  have HLE := Lib.hid (fun z => dlL_len ho z)
  have HN0 : Hid (ciF cs id = none → diE (ciF cs id) ks lo hi = 5) := Lib.hid (fun h => by rw [h]; rfl)
  have HSM : Hid (∀ z, ciF cs id = some z → (hi < lo → diE (ciF cs id) ks lo hi = 1) ∧ (lo ≤ hi → lo < z.f → diE (ciF cs id) ks lo hi = 1) ∧ (lo ≤ hi → z.f ≤ lo → z.t < hi → diE (ciF cs id) ks lo hi = 1) ∧ (lo ≤ hi → z.f ≤ lo → hi ≤ z.t → (400 ≤ hi - lo → diE (ciF cs id) ks lo hi = 2) ∧ (hi - lo < 400 → (ctB z.dr (dlL z ks) = true → diE (ciF cs id) ks lo hi = 9) ∧ (ctB z.dr (dlL z ks) = false → diE (ciF cs id) ks lo hi = 0)))) := Lib.hid (fun z h => by rw [h]; exact di_some)
  unfold DlOut at HDO
  unfold DinOut
  obtain ⟨E, hE⟩ : ∃ q, diE (ciF cs id) ks lo hi = q := ⟨_, rfl⟩
  obtain ⟨F, hF⟩ : ∃ q, ciF cs id = q := ⟨_, rfl⟩
  rw [hE] at HN0 ⊢
  simp only [hE] at HSM
  rw [hF] at HN0 HDO ⊢
  simp only [hF] at HSM HTT HCI
  clear hv1 hv2 hE hF
  obtain ⟨x0, x1, x2, xlt, xb⟩ := cells3 w #[.slice a1 cs.length c1, .slice a2 ks.length c2] #[.int .i64 lo, .int .i64 hi] #[.int .i64 0, .int .i64 0, .int .i64 0, .int .i64 0, .int .i64 0, .int .i64 0, .int .i64 0, .int .i64 0, .slice none 0 0] 25 36 119 (Below.refl _ _)
  have HNc : Hid ((((w.alloc (.cells #[.slice a1 cs.length c1, .slice a2 ks.length c2] 25)).alloc (.cells #[.int .i64 lo, .int .i64 hi] 36)).alloc (.cells #[.int .i64 0, .int .i64 0, .int .i64 0, .int .i64 0, .int .i64 0, .int .i64 0, .int .i64 0, .int .i64 0, .slice none 0 0] 119)).heap[w.heap.size]? = some (.cells #[.slice a1 cs.length c1, .slice a2 ks.length c2] 25 (0, 0))) := Lib.hid x0
  have HNt : Hid ((((w.alloc (.cells #[.slice a1 cs.length c1, .slice a2 ks.length c2] 25)).alloc (.cells #[.int .i64 lo, .int .i64 hi] 36)).alloc (.cells #[.int .i64 0, .int .i64 0, .int .i64 0, .int .i64 0, .int .i64 0, .int .i64 0, .int .i64 0, .int .i64 0, .slice none 0 0] 119)).heap[w.heap.size + 1]? = some (.cells #[.int .i64 lo, .int .i64 hi] 36 (0, 0))) := Lib.hid x1
  have HNr : Hid ((((w.alloc (.cells #[.slice a1 cs.length c1, .slice a2 ks.length c2] 25)).alloc (.cells #[.int .i64 lo, .int .i64 hi] 36)).alloc (.cells #[.int .i64 0, .int .i64 0, .int .i64 0, .int .i64 0, .int .i64 0, .int .i64 0, .int .i64 0, .int .i64 0, .slice none 0 0] 119)).heap[w.heap.size + 1 + 1]? = some (.cells #[.int .i64 0, .int .i64 0, .int .i64 0, .int .i64 0, .int .i64 0, .int .i64 0, .int .i64 0, .int .i64 0, .slice none 0 0] 119 (0, 0))) := Lib.hid x2
  have HB : Hid (Below w.heap.size w (((w.alloc (.cells #[.slice a1 cs.length c1, .slice a2 ks.length c2] 25)).alloc (.cells #[.int .i64 lo, .int .i64 hi] 36)).alloc (.cells #[.int .i64 0, .int .i64 0, .int .i64 0, .int .i64 0, .int .i64 0, .int .i64 0, .int .i64 0, .int .i64 0, .slice none 0 0] 119))) := Lib.hid xb
  obtain ⟨Z, hZ⟩ : ∃ Z, (((w.alloc (.cells #[.slice a1 cs.length c1, .slice a2 ks.length c2] 25)).alloc (.cells #[.int .i64 lo, .int .i64 hi] 36)).alloc (.cells #[.int .i64 0, .int .i64 0, .int .i64 0, .int .i64 0, .int .i64 0, .int .i64 0, .int .i64 0, .int .i64 0, .slice none 0 0] 119)) = Z := ⟨_, rfl⟩
  rw [hZ] at HB HNc HNt HNr
  have HZ := Lib.hid hZ
  clear hZ xlt xb x0 x1 x2
  go_enter Tryz.func117, Tryz.ntmps117
  go_wp2_with fail
  rw [HZ.out]
  refine (HDO.out _ HB.out).mono ?_
  rintro e w1 ⟨hb, hd⟩
  replace HB := Lib.hid (HB.out.trans (hb.mono HB.out.size))
  replace HNc := Lib.hid ((hb.block _ (Array.getElem?_eq_some_iff.1 HNc.out).1).trans HNc.out)
  replace HNt := Lib.hid ((hb.block _ (Array.getElem?_eq_some_iff.1 HNt.out).1).trans HNt.out)
  replace HNr := Lib.hid ((hb.block _ (Array.getElem?_eq_some_iff.1 HNr.out).1).trans HNr.out)
  clear hb
  cases F with
  | none =>
    simp only at hd
    unfold dl0 at hd
    subst hd
    have HN := Lib.hid (HN0.out rfl)
    have hAlc : Below w1.heap.size w1 (w1.alloc (.cells #[.int .i64 0, .int .i64 0, .int .i64 0, .int .i64 0, .int .i64 0, .int .i64 0, .int .i64 0, .int .i64 0, .slice none 0 0] 119)) := (Below.refl _ w1).alloc (Nat.le_refl _) _
    have HSd : Hid (w.heap.size ≤ w1.heap.size) := Lib.hid HB.out.size
    have HNd : Hid ((w1.alloc (.cells #[.int .i64 0, .int .i64 0, .int .i64 0, .int .i64 0, .int .i64 0, .int .i64 0, .int .i64 0, .int .i64 0, .slice none 0 0] 119)).heap[w1.heap.size]? = some (.cells #[.int .i64 0, .int .i64 0, .int .i64 0, .int .i64 0, .int .i64 0, .int .i64 0, .int .i64 0, .int .i64 0, .slice none 0 0] 119 (0, 0))) := Lib.hid (heap_alloc_new _ _)
    replace HB := Lib.hid (HB.out.trans (hAlc.mono HB.out.size))
    have HXc_d : Hid (w.heap.size ≠ w1.heap.size) := Lib.hid (Nat.ne_of_lt (Array.getElem?_eq_some_iff.1 HNc.out).1)
    have HXt_d : Hid (w.heap.size + 1 ≠ w1.heap.size) := Lib.hid (Nat.ne_of_lt (Array.getElem?_eq_some_iff.1 HNt.out).1)
    have HXr_d : Hid (w.heap.size + 1 + 1 ≠ w1.heap.size) := Lib.hid (Nat.ne_of_lt (Array.getElem?_eq_some_iff.1 HNr.out).1)
    replace HNc := Lib.hid ((hAlc.block _ (Array.getElem?_eq_some_iff.1 HNc.out).1).trans HNc.out)
    replace HNt := Lib.hid ((hAlc.block _ (Array.getElem?_eq_some_iff.1 HNt.out).1).trans HNt.out)
    replace HNr := Lib.hid ((hAlc.block _ (Array.getElem?_eq_some_iff.1 HNr.out).1).trans HNr.out)
    obtain ⟨ad, had⟩ : ∃ qq, w1.alloc (.cells #[.int .i64 0, .int .i64 0, .int .i64 0, .int .i64 0, .int .i64 0, .int .i64 0, .int .i64 0, .int .i64 0, .slice none 0 0] 119) = qq := ⟨_, rfl⟩
    obtain ⟨bkd, hbd⟩ : ∃ qq, w1.heap.size = qq := ⟨_, rfl⟩
    rw [had] at HB HNd HNc HNt HNr
    rw [hbd] at HNd HSd HXc_d HXt_d HXr_d
    clear hAlc
    have zd0 := cellH HNd.out 0
    have zd1 := cellH HNd.out 1
    have zd2 := cellH HNd.out 2
    have zd3 := cellH HNd.out 3
    have zd4 := cellH HNd.out 4
    have zd5 := cellH HNd.out 5
    have zd6 := cellH HNd.out 6
    have zd7 := cellH HNd.out 7
    have zd8 := cellH HNd.out 8
    simp only [List.getElem?_toArray, List.getElem?_cons_zero, List.getElem?_cons_succ] at zd0 zd1 zd2 zd3 zd4 zd5 zd6 zd7 zd8
    have zfd := freeH HNd.out
    replace HNc := Lib.hid ((heap_other ad (bkd) 0 (.int .i64 0) _ HXc_d.out).trans HNc.out)
    replace HNt := Lib.hid ((heap_other ad (bkd) 0 (.int .i64 0) _ HXt_d.out).trans HNt.out)
    replace HNr := Lib.hid ((heap_other ad (bkd) 0 (.int .i64 0) _ HXr_d.out).trans HNr.out)
    replace HNd := Lib.hid (heap_same HNd.out 0 (.int .i64 0))
    simp only [List.setIfInBounds_toArray, List.set_cons_zero, List.set_cons_succ] at HNd
    replace HB := Lib.hid (HB.out.setCell (p := ⟨bkd, 0, none⟩) HSd.out (.int .i64 0))
    obtain ⟨s2, hs2⟩ : ∃ X, ad.setCell ⟨bkd, 0, none⟩ (.int .i64 0) = X := ⟨_, rfl⟩
    rw [hs2] at HB HNc HNt HNr HNd
    have zd0_2 := cellH HNd.out 0
    have zd1_2 := cellH HNd.out 1
    have zd2_2 := cellH HNd.out 2
    have zd3_2 := cellH HNd.out 3
    have zd4_2 := cellH HNd.out 4
    have zd5_2 := cellH HNd.out 5
    have zd6_2 := cellH HNd.out 6
    have zd7_2 := cellH HNd.out 7
    have zd8_2 := cellH HNd.out 8
    simp only [List.getElem?_toArray, List.getElem?_cons_zero, List.getElem?_cons_succ] at zd0_2 zd1_2 zd2_2 zd3_2 zd4_2 zd5_2 zd6_2 zd7_2 zd8_2
    have zfd_2 := freeH HNd.out
    replace HNc := Lib.hid ((heap_other s2 (bkd) 1 (.int .i64 0) _ HXc_d.out).trans HNc.out)
    replace HNt := Lib.hid ((heap_other s2 (bkd) 1 (.int .i64 0) _ HXt_d.out).trans HNt.out)
    replace HNr := Lib.hid ((heap_other s2 (bkd) 1 (.int .i64 0) _ HXr_d.out).trans HNr.out)
    replace HNd := Lib.hid (heap_same HNd.out 1 (.int .i64 0))
    simp only [List.setIfInBounds_toArray, List.set_cons_zero, List.set_cons_succ] at HNd
    replace HB := Lib.hid (HB.out.setCell (p := ⟨bkd, 1, none⟩) HSd.out (.int .i64 0))
    obtain ⟨s3, hs3⟩ : ∃ X, s2.setCell ⟨bkd, 1, none⟩ (.int .i64 0) = X := ⟨_, rfl⟩
    rw [hs3] at HB HNc HNt HNr HNd
    have zd0_3 := cellH HNd.out 0
    have zd1_3 := cellH HNd.out 1
    have zd2_3 := cellH HNd.out 2
    have zd3_3 := cellH HNd.out 3
    have zd4_3 := cellH HNd.out 4
    have zd5_3 := cellH HNd.out 5
    have zd6_3 := cellH HNd.out 6
    have zd7_3 := cellH HNd.out 7
    have zd8_3 := cellH HNd.out 8
    simp only [List.getElem?_toArray, List.getElem?_cons_zero, List.getElem?_cons_succ] at zd0_3 zd1_3 zd2_3 zd3_3 zd4_3 zd5_3 zd6_3 zd7_3 zd8_3
    have zfd_3 := freeH HNd.out
    replace HNc := Lib.hid ((heap_other s3 (bkd) 2 (.int .i64 0) _ HXc_d.out).trans HNc.out)
    replace HNt := Lib.hid ((heap_other s3 (bkd) 2 (.int .i64 0) _ HXt_d.out).trans HNt.out)
    replace HNr := Lib.hid ((heap_other s3 (bkd) 2 (.int .i64 0) _ HXr_d.out).trans HNr.out)
    replace HNd := Lib.hid (heap_same HNd.out 2 (.int .i64 0))
    simp only [List.setIfInBounds_toArray, List.set_cons_zero, List.set_cons_succ] at HNd
    replace HB := Lib.hid (HB.out.setCell (p := ⟨bkd, 2, none⟩) HSd.out (.int .i64 0))
    obtain ⟨s4, hs4⟩ : ∃ X, s3.setCell ⟨bkd, 2, none⟩ (.int .i64 0) = X := ⟨_, rfl⟩
    rw [hs4] at HB HNc HNt HNr HNd
    have zd0_4 := cellH HNd.out 0
    have zd1_4 := cellH HNd.out 1
    have zd2_4 := cellH HNd.out 2
    have zd3_4 := cellH HNd.out 3
    have zd4_4 := cellH HNd.out 4
    have zd5_4 := cellH HNd.out 5
    have zd6_4 := cellH HNd.out 6
    have zd7_4 := cellH HNd.out 7
    have zd8_4 := cellH HNd.out 8
    simp only [List.getElem?_toArray, List.getElem?_cons_zero, List.getElem?_cons_succ] at zd0_4 zd1_4 zd2_4 zd3_4 zd4_4 zd5_4 zd6_4 zd7_4 zd8_4
    have zfd_4 := freeH HNd.out
    replace HNc := Lib.hid ((heap_other s4 (bkd) 3 (.int .i64 0) _ HXc_d.out).trans HNc.out)
    replace HNt := Lib.hid ((heap_other s4 (bkd) 3 (.int .i64 0) _ HXt_d.out).trans HNt.out)
    replace HNr := Lib.hid ((heap_other s4 (bkd) 3 (.int .i64 0) _ HXr_d.out).trans HNr.out)
    replace HNd := Lib.hid (heap_same HNd.out 3 (.int .i64 0))
    simp only [List.setIfInBounds_toArray, List.set_cons_zero, List.set_cons_succ] at HNd
    replace HB := Lib.hid (HB.out.setCell (p := ⟨bkd, 3, none⟩) HSd.out (.int .i64 0))
    obtain ⟨s5, hs5⟩ : ∃ X, s4.setCell ⟨bkd, 3, none⟩ (.int .i64 0) = X := ⟨_, rfl⟩
    rw [hs5] at HB HNc HNt HNr HNd
    have zd0_5 := cellH HNd.out 0
    have zd1_5 := cellH HNd.out 1
    have zd2_5 := cellH HNd.out 2
    have zd3_5 := cellH HNd.out 3
    have zd4_5 := cellH HNd.out 4
    have zd5_5 := cellH HNd.out 5
    have zd6_5 := cellH HNd.out 6
    have zd7_5 := cellH HNd.out 7
    have zd8_5 := cellH HNd.out 8
    simp only [List.getElem?_toArray, List.getElem?_cons_zero, List.getElem?_cons_succ] at zd0_5 zd1_5 zd2_5 zd3_5 zd4_5 zd5_5 zd6_5 zd7_5 zd8_5
    have zfd_5 := freeH HNd.out
    replace HNc := Lib.hid ((heap_other s5 (bkd) 4 (.int .i64 0) _ HXc_d.out).trans HNc.out)
    replace HNt := Lib.hid ((heap_other s5 (bkd) 4 (.int .i64 0) _ HXt_d.out).trans HNt.out)
    replace HNr := Lib.hid ((heap_other s5 (bkd) 4 (.int .i64 0) _ HXr_d.out).trans HNr.out)
    replace HNd := Lib.hid (heap_same HNd.out 4 (.int .i64 0))
    simp only [List.setIfInBounds_toArray, List.set_cons_zero, List.set_cons_succ] at HNd
    replace HB := Lib.hid (HB.out.setCell (p := ⟨bkd, 4, none⟩) HSd.out (.int .i64 0))
    obtain ⟨s6, hs6⟩ : ∃ X, s5.setCell ⟨bkd, 4, none⟩ (.int .i64 0) = X := ⟨_, rfl⟩
    rw [hs6] at HB HNc HNt HNr HNd
    have zd0_6 := cellH HNd.out 0
    have zd1_6 := cellH HNd.out 1
    have zd2_6 := cellH HNd.out 2
    have zd3_6 := cellH HNd.out 3
    have zd4_6 := cellH HNd.out 4
    have zd5_6 := cellH HNd.out 5
    have zd6_6 := cellH HNd.out 6
    have zd7_6 := cellH HNd.out 7
    have zd8_6 := cellH HNd.out 8
    simp only [List.getElem?_toArray, List.getElem?_cons_zero, List.getElem?_cons_succ] at zd0_6 zd1_6 zd2_6 zd3_6 zd4_6 zd5_6 zd6_6 zd7_6 zd8_6
    have zfd_6 := freeH HNd.out
    replace HNc := Lib.hid ((heap_other s6 (bkd) 5 (.int .i64 0) _ HXc_d.out).trans HNc.out)
    replace HNt := Lib.hid ((heap_other s6 (bkd) 5 (.int .i64 0) _ HXt_d.out).trans HNt.out)
    replace HNr := Lib.hid ((heap_other s6 (bkd) 5 (.int .i64 0) _ HXr_d.out).trans HNr.out)
    replace HNd := Lib.hid (heap_same HNd.out 5 (.int .i64 0))
    simp only [List.setIfInBounds_toArray, List.set_cons_zero, List.set_cons_succ] at HNd
    replace HB := Lib.hid (HB.out.setCell (p := ⟨bkd, 5, none⟩) HSd.out (.int .i64 0))
    obtain ⟨s7, hs7⟩ : ∃ X, s6.setCell ⟨bkd, 5, none⟩ (.int .i64 0) = X := ⟨_, rfl⟩
    rw [hs7] at HB HNc HNt HNr HNd
    have zd0_7 := cellH HNd.out 0
    have zd1_7 := cellH HNd.out 1
    have zd2_7 := cellH HNd.out 2
    have zd3_7 := cellH HNd.out 3
    have zd4_7 := cellH HNd.out 4
    have zd5_7 := cellH HNd.out 5
    have zd6_7 := cellH HNd.out 6
    have zd7_7 := cellH HNd.out 7
    have zd8_7 := cellH HNd.out 8
    simp only [List.getElem?_toArray, List.getElem?_cons_zero, List.getElem?_cons_succ] at zd0_7 zd1_7 zd2_7 zd3_7 zd4_7 zd5_7 zd6_7 zd7_7 zd8_7
    have zfd_7 := freeH HNd.out
    replace HNc := Lib.hid ((heap_other s7 (bkd) 6 (.int .i64 0) _ HXc_d.out).trans HNc.out)
    replace HNt := Lib.hid ((heap_other s7 (bkd) 6 (.int .i64 0) _ HXt_d.out).trans HNt.out)
    replace HNr := Lib.hid ((heap_other s7 (bkd) 6 (.int .i64 0) _ HXr_d.out).trans HNr.out)
    replace HNd := Lib.hid (heap_same HNd.out 6 (.int .i64 0))
    simp only [List.setIfInBounds_toArray, List.set_cons_zero, List.set_cons_succ] at HNd
    replace HB := Lib.hid (HB.out.setCell (p := ⟨bkd, 6, none⟩) HSd.out (.int .i64 0))
    obtain ⟨s8, hs8⟩ : ∃ X, s7.setCell ⟨bkd, 6, none⟩ (.int .i64 0) = X := ⟨_, rfl⟩
    rw [hs8] at HB HNc HNt HNr HNd
    have zd0_8 := cellH HNd.out 0
    have zd1_8 := cellH HNd.out 1
    have zd2_8 := cellH HNd.out 2
    have zd3_8 := cellH HNd.out 3
    have zd4_8 := cellH HNd.out 4
    have zd5_8 := cellH HNd.out 5
    have zd6_8 := cellH HNd.out 6
    have zd7_8 := cellH HNd.out 7
    have zd8_8 := cellH HNd.out 8
    simp only [List.getElem?_toArray, List.getElem?_cons_zero, List.getElem?_cons_succ] at zd0_8 zd1_8 zd2_8 zd3_8 zd4_8 zd5_8 zd6_8 zd7_8 zd8_8
    have zfd_8 := freeH HNd.out
    replace HNc := Lib.hid ((heap_other s8 (bkd) 7 (.int .i64 0) _ HXc_d.out).trans HNc.out)
    replace HNt := Lib.hid ((heap_other s8 (bkd) 7 (.int .i64 0) _ HXt_d.out).trans HNt.out)
    replace HNr := Lib.hid ((heap_other s8 (bkd) 7 (.int .i64 0) _ HXr_d.out).trans HNr.out)
    replace HNd := Lib.hid (heap_same HNd.out 7 (.int .i64 0))
    simp only [List.setIfInBounds_toArray, List.set_cons_zero, List.set_cons_succ] at HNd
    replace HB := Lib.hid (HB.out.setCell (p := ⟨bkd, 7, none⟩) HSd.out (.int .i64 0))
    obtain ⟨s9, hs9⟩ : ∃ X, s8.setCell ⟨bkd, 7, none⟩ (.int .i64 0) = X := ⟨_, rfl⟩
    rw [hs9] at HB HNc HNt HNr HNd
    have zd0_9 := cellH HNd.out 0
    have zd1_9 := cellH HNd.out 1
    have zd2_9 := cellH HNd.out 2
    have zd3_9 := cellH HNd.out 3
    have zd4_9 := cellH HNd.out 4
    have zd5_9 := cellH HNd.out 5
    have zd6_9 := cellH HNd.out 6
    have zd7_9 := cellH HNd.out 7
    have zd8_9 := cellH HNd.out 8
    simp only [List.getElem?_toArray, List.getElem?_cons_zero, List.getElem?_cons_succ] at zd0_9 zd1_9 zd2_9 zd3_9 zd4_9 zd5_9 zd6_9 zd7_9 zd8_9
    have zfd_9 := freeH HNd.out
    replace HNc := Lib.hid ((heap_other s9 (bkd) 8 (.slice none 0 0) _ HXc_d.out).trans HNc.out)
    replace HNt := Lib.hid ((heap_other s9 (bkd) 8 (.slice none 0 0) _ HXt_d.out).trans HNt.out)
    replace HNr := Lib.hid ((heap_other s9 (bkd) 8 (.slice none 0 0) _ HXr_d.out).trans HNr.out)
    replace HNd := Lib.hid (heap_same HNd.out 8 (.slice none 0 0))
    simp only [List.setIfInBounds_toArray, List.set_cons_zero, List.set_cons_succ] at HNd
    replace HB := Lib.hid (HB.out.setCell (p := ⟨bkd, 8, none⟩) HSd.out (.slice none 0 0))
    obtain ⟨s10, hs10⟩ : ∃ X, s9.setCell ⟨bkd, 8, none⟩ (.slice none 0 0) = X := ⟨_, rfl⟩
    rw [hs10] at HB HNc HNt HNr HNd
    have zr0_10 := cellH HNr.out 0
    have zr1_10 := cellH HNr.out 1
    have zr2_10 := cellH HNr.out 2
    have zr3_10 := cellH HNr.out 3
    have zr4_10 := cellH HNr.out 4
    have zr5_10 := cellH HNr.out 5
    have zr6_10 := cellH HNr.out 6
    have zr7_10 := cellH HNr.out 7
    have zr8_10 := cellH HNr.out 8
    simp only [List.getElem?_toArray, List.getElem?_cons_zero, List.getElem?_cons_succ] at zr0_10 zr1_10 zr2_10 zr3_10 zr4_10 zr5_10 zr6_10 zr7_10 zr8_10
    have zfr_10 := freeH HNr.out
    go_wp2_with fail
    try clear had hbd hs2 hs3 hs4 hs5 hs6 hs7 hs8 hs9 hs10
    obtain ⟨z1, z2⟩ := set9 HNr.out HB.out (by omega) (.int .i64 0) (.int .i64 0) (.int .i64 0) (.int .i64 0) (.int .i64 0) (.int .i64 0) (.int .i64 0) (.int .i64 0) (.slice none 0 0)
    refine bodyPost_ret (res_ct Tryz.results117 _ _ (w.heap.size + 1 + 1) 119 #[.int .i64 0, .int .i64 0, .int .i64 0, .int .i64 0, .int .i64 0, .int .i64 0, .int .i64 0, .int .i64 0, .slice none 0 0] (0, 0) _ rfl z1 Tryz.underlying119 rfl info_di9) rfl ?_
    exact ⟨z2, fun _ => by rw [HN.out]; rfl, fun h => absurd h (by rw [HN.out]; decide)⟩
  | some z =>
    simp only at hd
    obtain ⟨v, rfl, hr, hO⟩ := hd
    have hOO := hO
    obtain ⟨g, n, cap, _, rfl, _⟩ := hOO
    have hzo := Ci.ok_iff.1 (HCI.out z rfl)
    have HTO := Lib.hid (HTT.out z rfl)
    have HLL := Lib.hid (HLE.out z)
    replace HSM := Lib.hid (HSM.out z rfl)
    obtain ⟨L, hL⟩ : ∃ q, dlL z ks = q := ⟨_, rfl⟩
    rw [hL] at HSM HTO HLL hr
    have HLEQ := Lib.hid hL
    obtain ⟨di, dx, dy, df, dt, dl, dh, dr⟩ := z
    simp only at HSM hzo
    have HDB := Lib.hid (show 0 ≤ df ∧ df ≤ dt ∧ dt ≤ 1048576 ∧ 0 ≤ dr ∧ dr ≤ 60 by omega)
    have HR := Lib.hid hr
    have HT := Lib.hid hO
    have HCT := Lib.hid (fun w' h1 h2 => contradicted_any ⟨di, dx, dy, df, dt, dl, dh, dr⟩ (.slice (some ⟨g, 0, none⟩) n cap) L w' h1 h2 (by have := HLL.out; omega) (by have := HDB.out; simp only; omega) HTO.out)
    obtain ⟨C3, hC3⟩ : ∃ q, ctB dr L = q := ⟨_, rfl⟩
    simp only at HCT
    rw [hC3] at HCT HSM
    clear hr hO hzo hL hC3 HTT HCI HLE HN0
    have hAlc : Below w1.heap.size w1 (w1.alloc (.cells #[.int .i64 di, .int .i64 dx, .int .i64 dy, .int .i64 df, .int .i64 dt, .int .i64 dl, .int .i64 dh, .int .i64 dr, .slice (some ⟨g, 0, none⟩) n cap] 119)) := (Below.refl _ w1).alloc (Nat.le_refl _) _
    have HSd : Hid (w.heap.size ≤ w1.heap.size) := Lib.hid HB.out.size
    have HNd : Hid ((w1.alloc (.cells #[.int .i64 di, .int .i64 dx, .int .i64 dy, .int .i64 df, .int .i64 dt, .int .i64 dl, .int .i64 dh, .int .i64 dr, .slice (some ⟨g, 0, none⟩) n cap] 119)).heap[w1.heap.size]? = some (.cells #[.int .i64 di, .int .i64 dx, .int .i64 dy, .int .i64 df, .int .i64 dt, .int .i64 dl, .int .i64 dh, .int .i64 dr, .slice (some ⟨g, 0, none⟩) n cap] 119 (0, 0))) := Lib.hid (heap_alloc_new _ _)
    replace HB := Lib.hid (HB.out.trans (hAlc.mono HB.out.size))
    have HXc_d : Hid (w.heap.size ≠ w1.heap.size) := Lib.hid (Nat.ne_of_lt (Array.getElem?_eq_some_iff.1 HNc.out).1)
    have HXt_d : Hid (w.heap.size + 1 ≠ w1.heap.size) := Lib.hid (Nat.ne_of_lt (Array.getElem?_eq_some_iff.1 HNt.out).1)
    have HXr_d : Hid (w.heap.size + 1 + 1 ≠ w1.heap.size) := Lib.hid (Nat.ne_of_lt (Array.getElem?_eq_some_iff.1 HNr.out).1)
    replace HNc := Lib.hid ((hAlc.block _ (Array.getElem?_eq_some_iff.1 HNc.out).1).trans HNc.out)
    replace HNt := Lib.hid ((hAlc.block _ (Array.getElem?_eq_some_iff.1 HNt.out).1).trans HNt.out)
    replace HNr := Lib.hid ((hAlc.block _ (Array.getElem?_eq_some_iff.1 HNr.out).1).trans HNr.out)
    replace HR := Lib.hid (HR.out.keep hAlc)
    replace HT := Lib.hid (HT.out.keep hAlc)
    obtain ⟨ad, had⟩ : ∃ qq, w1.alloc (.cells #[.int .i64 di, .int .i64 dx, .int .i64 dy, .int .i64 df, .int .i64 dt, .int .i64 dl, .int .i64 dh, .int .i64 dr, .slice (some ⟨g, 0, none⟩) n cap] 119) = qq := ⟨_, rfl⟩
    obtain ⟨bkd, hbd⟩ : ∃ qq, w1.heap.size = qq := ⟨_, rfl⟩
    rw [had] at HB HNd HNc HNt HNr HR HT
    rw [hbd] at HNd HSd HXc_d HXt_d HXr_d
    clear hAlc
    have zt0 := cellH HNt.out 0
    have zt1 := cellH HNt.out 1
    have zd0 := cellH HNd.out 0
    have zd1 := cellH HNd.out 1
    have zd2 := cellH HNd.out 2
    have zd3 := cellH HNd.out 3
    have zd4 := cellH HNd.out 4
    have zd5 := cellH HNd.out 5
    have zd6 := cellH HNd.out 6
    have zd7 := cellH HNd.out 7
    have zd8 := cellH HNd.out 8
    simp only [List.getElem?_toArray, List.getElem?_cons_zero, List.getElem?_cons_succ] at zt0 zt1 zd0 zd1 zd2 zd3 zd4 zd5 zd6 zd7 zd8
    have zr0_12 := cellH HNr.out 0
    have zr1_12 := cellH HNr.out 1
    have zr2_12 := cellH HNr.out 2
    have zr3_12 := cellH HNr.out 3
    have zr4_12 := cellH HNr.out 4
    have zr5_12 := cellH HNr.out 5
    have zr6_12 := cellH HNr.out 6
    have zr7_12 := cellH HNr.out 7
    have zr8_12 := cellH HNr.out 8
    simp only [List.getElem?_toArray, List.getElem?_cons_zero, List.getElem?_cons_succ] at zr0_12 zr1_12 zr2_12 zr3_12 zr4_12 zr5_12 zr6_12 zr7_12 zr8_12
    have zfr_12 := freeH HNr.out
    by_cases h1 : hi < lo
    case pos =>
      have HN := Lib.hid (HSM.out.1 h1)
      go_wp2_with fail
      try clear had hbd
      obtain ⟨z1, z2⟩ := set9 HNr.out HB.out (by omega) (.int .i64 0) (.int .i64 0) (.int .i64 0) (.int .i64 0) (.int .i64 0) (.int .i64 0) (.int .i64 0) (.int .i64 0) (.slice none 0 0)
      refine bodyPost_ret (res_ct Tryz.results117 _ _ (w.heap.size + 1 + 1) 119 #[.int .i64 0, .int .i64 0, .int .i64 0, .int .i64 0, .int .i64 0, .int .i64 0, .int .i64 0, .int .i64 0, .slice none 0 0] (0, 0) _ rfl z1 Tryz.underlying119 rfl info_di9) rfl ?_
      exact ⟨z2, fun _ => by rw [HN.out]; rfl, fun h => absurd h (by rw [HN.out]; decide)⟩
    by_cases h2 : lo < df
    case pos =>
      have HN := Lib.hid (HSM.out.2.1 (Int.not_lt.1 h1) h2)
      go_wp2_with fail
      try clear had hbd
      obtain ⟨z1, z2⟩ := set9 HNr.out HB.out (by omega) (.int .i64 0) (.int .i64 0) (.int .i64 0) (.int .i64 0) (.int .i64 0) (.int .i64 0) (.int .i64 0) (.int .i64 0) (.slice none 0 0)
      refine bodyPost_ret (res_ct Tryz.results117 _ _ (w.heap.size + 1 + 1) 119 #[.int .i64 0, .int .i64 0, .int .i64 0, .int .i64 0, .int .i64 0, .int .i64 0, .int .i64 0, .int .i64 0, .slice none 0 0] (0, 0) _ rfl z1 Tryz.underlying119 rfl info_di9) rfl ?_
      exact ⟨z2, fun _ => by rw [HN.out]; rfl, fun h => absurd h (by rw [HN.out]; decide)⟩
    by_cases h3 : dt < hi
    case pos =>
      have HN := Lib.hid (HSM.out.2.2.1 (Int.not_lt.1 h1) (Int.not_lt.1 h2) h3)
      go_wp2_with fail
      try clear had hbd
      obtain ⟨z1, z2⟩ := set9 HNr.out HB.out (by omega) (.int .i64 0) (.int .i64 0) (.int .i64 0) (.int .i64 0) (.int .i64 0) (.int .i64 0) (.int .i64 0) (.int .i64 0) (.slice none 0 0)
      refine bodyPost_ret (res_ct Tryz.results117 _ _ (w.heap.size + 1 + 1) 119 #[.int .i64 0, .int .i64 0, .int .i64 0, .int .i64 0, .int .i64 0, .int .i64 0, .int .i64 0, .int .i64 0, .slice none 0 0] (0, 0) _ rfl z1 Tryz.underlying119 rfl info_di9) rfl ?_
      exact ⟨z2, fun _ => by rw [HN.out]; rfl, fun h => absurd h (by rw [HN.out]; decide)⟩
    have hdb := HDB.out
    have gw : IntKind.i64.wrap (hi - lo) = hi - lo := IntWalk.i64_in _ (by omega)
    replace HSM := Lib.hid (HSM.out.2.2.2 (Int.not_lt.1 h1) (Int.not_lt.1 h2) (Int.not_lt.1 h3))
    clear hdb
    by_cases h4 : 400 ≤ hi - lo
    case pos =>
      have HN := Lib.hid (HSM.out.1 h4)
      go_wp2_with fail
      try clear had hbd
      obtain ⟨z1, z2⟩ := set9 HNr.out HB.out (by omega) (.int .i64 0) (.int .i64 0) (.int .i64 0) (.int .i64 0) (.int .i64 0) (.int .i64 0) (.int .i64 0) (.int .i64 0) (.slice none 0 0)
      refine bodyPost_ret (res_ct Tryz.results117 _ _ (w.heap.size + 1 + 1) 119 #[.int .i64 0, .int .i64 0, .int .i64 0, .int .i64 0, .int .i64 0, .int .i64 0, .int .i64 0, .int .i64 0, .slice none 0 0] (0, 0) _ rfl z1 Tryz.underlying119 rfl info_di9) rfl ?_
      exact ⟨z2, fun _ => by rw [HN.out]; rfl, fun h => absurd h (by rw [HN.out]; decide)⟩
    replace HSM := Lib.hid (HSM.out.2 (Int.not_le.1 h4))
    go_wp2_with fail
    try clear had hbd
    refine (HCT.out _ HR.out HT.out).mono ?_
    rintro e w11 ⟨rfl, hb⟩
    clear zt0 zt1 zd0 zd1 zd2 zd3 zd4 zd5 zd6 zd7 zd8 zr0_12 zr1_12 zr2_12 zr3_12 zr4_12 zr5_12 zr6_12 zr7_12 zr8_12 zfr_12
    replace HB := Lib.hid (HB.out.trans (hb.mono HB.out.size))
    replace HNc := Lib.hid ((hb.block _ (Array.getElem?_eq_some_iff.1 HNc.out).1).trans HNc.out)
    replace HNt := Lib.hid ((hb.block _ (Array.getElem?_eq_some_iff.1 HNt.out).1).trans HNt.out)
    replace HNr := Lib.hid ((hb.block _ (Array.getElem?_eq_some_iff.1 HNr.out).1).trans HNr.out)
    replace HNd := Lib.hid ((hb.block _ (Array.getElem?_eq_some_iff.1 HNd.out).1).trans HNd.out)
    replace HR := Lib.hid (HR.out.keep hb)
    replace HT := Lib.hid (HT.out.keep hb)
    clear hb h1 h2 h3 h4 gw
    have zd0 := cellH HNd.out 0
    have zd1 := cellH HNd.out 1
    have zd2 := cellH HNd.out 2
    have zd3 := cellH HNd.out 3
    have zd4 := cellH HNd.out 4
    have zd5 := cellH HNd.out 5
    have zd6 := cellH HNd.out 6
    have zd7 := cellH HNd.out 7
    have zd8 := cellH HNd.out 8
    simp only [List.getElem?_toArray, List.getElem?_cons_zero, List.getElem?_cons_succ] at zd0 zd1 zd2 zd3 zd4 zd5 zd6 zd7 zd8
    have zr0_14 := cellH HNr.out 0
    have zr1_14 := cellH HNr.out 1
    have zr2_14 := cellH HNr.out 2
    have zr3_14 := cellH HNr.out 3
    have zr4_14 := cellH HNr.out 4
    have zr5_14 := cellH HNr.out 5
    have zr6_14 := cellH HNr.out 6
    have zr7_14 := cellH HNr.out 7
    have zr8_14 := cellH HNr.out 8
    simp only [List.getElem?_toArray, List.getElem?_cons_zero, List.getElem?_cons_succ] at zr0_14 zr1_14 zr2_14 zr3_14 zr4_14 zr5_14 zr6_14 zr7_14 zr8_14
    have zfr_14 := freeH HNr.out
    cases C3
    · have HN := Lib.hid (HSM.out.2 rfl)
      go_wp2_with fail
      have hne : g ≠ w.heap.size + 1 + 1 := by
        rintro rfl
        obtain ⟨g', n', cap', C', hv', hC'⟩ := HT.out
        cases hv'
        have h1 := hC'.symm.trans HNr.out
        simp at h1
      have hs := same9 (W := w11) hne (.int .i64 di) (.int .i64 dx) (.int .i64 dy) (.int .i64 df) (.int .i64 dt) (.int .i64 dl) (.int .i64 dh) (.int .i64 dr) (.slice (some ⟨g, 0, none⟩) n cap)
      obtain ⟨z1, z2⟩ := set9 HNr.out HB.out (by omega) (.int .i64 di) (.int .i64 dx) (.int .i64 dy) (.int .i64 df) (.int .i64 dt) (.int .i64 dl) (.int .i64 dh) (.int .i64 dr) (.slice (some ⟨g, 0, none⟩) n cap)
      refine bodyPost_ret (res_ct Tryz.results117 _ _ (w.heap.size + 1 + 1) 119 #[.int .i64 di, .int .i64 dx, .int .i64 dy, .int .i64 df, .int .i64 dt, .int .i64 dl, .int .i64 dh, .int .i64 dr, .slice (some ⟨g, 0, none⟩) n cap] (0, 0) _ rfl z1 Tryz.underlying119 rfl info_di9) rfl ?_
      exact ⟨z2, fun h => absurd HN.out h, fun _ => ⟨_, _, rfl, rfl, by rw [HLEQ.out]; exact HR.out.same hs⟩⟩
    · have HN := Lib.hid (HSM.out.1 rfl)
      go_wp2_with fail
      obtain ⟨z1, z2⟩ := set9 HNr.out HB.out (by omega) (.int .i64 0) (.int .i64 0) (.int .i64 0) (.int .i64 0) (.int .i64 0) (.int .i64 0) (.int .i64 0) (.int .i64 0) (.slice none 0 0)
      refine bodyPost_ret (res_ct Tryz.results117 _ _ (w.heap.size + 1 + 1) 119 #[.int .i64 0, .int .i64 0, .int .i64 0, .int .i64 0, .int .i64 0, .int .i64 0, .int .i64 0, .int .i64 0, .slice none 0 0] (0, 0) _ rfl z1 Tryz.underlying119 rfl info_di9) rfl ?_
      exact ⟨z2, fun _ => by rw [HN.out]; rfl, fun h => absurd h (by rw [HN.out]; decide)⟩
end Go.Proofs.YtebdboacmeafaaaGreat
