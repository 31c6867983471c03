/- Package circle: spans. -/
import Derived.Test.YtebdboacmeafaaaGreatCJ0
import Derived.Test.YtebdboacmeafaaaGreatCDC
set_option linter.unusedVariables false
set_option linter.unusedSimpArgs false
namespace Go.Proofs.YtebdboacmeafaaaGreat
open Go Go.RowKit

/-- The spans of some minutes. -/
def spN (dr : Int) (L : List Th) (lo : Int) (n : Nat) : List Pi2 := (List.range n).map fun j => (spLo dr L (lo + (j : Nat)), spHi dr L (lo + (j : Nat)))
theorem spN_succ (dr : Int) (L : List Th) (lo : Int) (n : Nat) : spN dr L lo (n + 1) = spN dr L lo n ++ [(spLo dr L (lo + n), spHi dr L (lo + n))] := by
  unfold spN; rw [List.range_succ, List.map_append]; rfl
theorem spN_len (dr : Int) (L : List Th) (lo : Int) (n : Nat) : (spN dr L lo n).length = n := by unfold spN; simp
/-- The code that spans answers. -/
def snE (cs : List Ci) (ks : List Ck) (id lo hi : Int) : Int := if ccE cs ks = 0 then diE (ciF cs id) ks lo hi else ccE cs ks
def SnHit (F : Option Ci) (ks : List Ck) (lo hi : Int) (e : Ending) (w' : World) : Prop := ∃ z v, F = some z ∧ e = .returned (.tuple #[v, .int .i64 0]) ∧ P2Row w' v (spN z.dr (dlL z ks) lo (hi - lo + 1).toNat)
theorem SnHit.mk {F : Option Ci} {ks : List Ck} {lo hi : Int} {e : Ending} {w' : World} {z : Ci} {v : Value} (h1 : F = some z) (h2 : e = .returned (.tuple #[v, .int .i64 0])) (h3 : P2Row w' v (spN z.dr (dlL z ks) lo (hi - lo + 1).toNat)) : SnHit F ks lo hi e w' := ⟨z, v, h1, h2, h3⟩
/-- What spans answers. -/
def SnOut (cs : List Ci) (ks : List Ck) (id lo hi : Int) (w : World) (e : Ending) (w' : World) : Prop :=
  Below w.heap.size w w' ∧ (snE cs ks id lo hi ≠ 0 → e = .returned (.tuple #[.slice none 0 0, .int .i64 (snE cs ks id lo hi)])) ∧
    (snE cs ks id lo hi = 0 → SnHit (ciF cs id) ks lo hi e w')
/-- A row of spans of the function's own. -/
def OwS (w : World) (B : Nat) (v : Value) (l : List Pi2) : Prop := w.ownsRow B 36 2 v l.length (l.flatMap enc2)
theorem OwS.keep {A C : World} {B : Nat} {v : Value} {l : List Pi2} (h : OwS A B v l) (hb : Below A.heap.size A C) : OwS C B v l := ownBelow h hb
theorem OwS.row {w : World} {B : Nat} {v : Value} {l : List Pi2} (h : OwS w B v l) : P2Row w v l := by
  rcases h.2 with ⟨rfl, h0⟩ | ⟨g, cap, cur, rfl, hb, hg, hn, hm, hs, ht⟩
  · exact .inl ⟨_, _, rfl, List.eq_nil_of_length_eq_zero h0⟩
  · refine .inr ⟨g, 0, cap, rfl, (Array.getElem?_eq_some_iff.1 hg).1, fun i hi => ?_⟩
    have key : ∀ j, j < 2 → w.cell? ⟨g, 0 + i * 2 + j, none⟩ = (enc2 (l.getD i (0, 0)))[j]? := fun j hj => by
      rw [cellH hg, ← flat_n enc2 2 (fun _ => rfl) (0, 0) l i j hi hj, ← ht, List.getElem?_take_of_lt (by omega), Array.getElem?_toList, Nat.zero_add]
    exact ⟨key 0 (by omega), key 1 (by omega)⟩
theorem info_zsp : (Tryz.prog.info? 36).map (fun i => (i.zero, i.size, i.bytes)) = some (some (.agg #[.int .i64 0, .int .i64 0]), 2, 16) := by kernel_rfl
theorem di_bd {cs : List Ci} {ks : List Ck} (ho : CcOk cs ks) {id lo hi : Int} {z : Ci} (hz : ciF cs id = some z) (h : diE (ciF cs id) ks lo hi = 0) : 0 ≤ lo ∧ lo ≤ hi ∧ hi ≤ 1048576 ∧ hi - lo < 400 ∧ (z.f ≤ lo ∧ hi ≤ z.t) ∧ ctB z.dr (dlL z ks) = false := by
  have hzo := Ci.ok_iff.1 (ciF_ok ho hz)
  rw [hz] at h
  obtain ⟨d1, d2, d3, d4⟩ := di_some (z := z) (ks := ks) (lo := lo) (hi := hi)
  have h1 : lo ≤ hi := Int.not_lt.1 fun q => by rw [d1 q] at h; cases h
  have h2 : z.f ≤ lo := Int.not_lt.1 fun q => by rw [d2 h1 q] at h; cases h
  have h3 : hi ≤ z.t := Int.not_lt.1 fun q => by rw [d3 h1 h2 q] at h; cases h
  obtain ⟨d5, d6⟩ := d4 h1 h2 h3
  have h4 : hi - lo < 400 := Int.not_le.1 fun q => by rw [d5 q] at h; cases h
  have h5 : ctB z.dr (dlL z ks) = false := by
    cases hc : ctB z.dr (dlL z ks)
    · rfl
    · rw [(d6 h4).1 hc] at h; cases h
  exact ⟨by omega, h1, by omega, h4, ⟨h2, h3⟩, h5⟩
set_option maxRecDepth 100000 in
set_option maxHeartbeats 8000000 in
theorem spans_any (v1 v2 : Value) (cs : List Ci) (ks : List Ck) (id lo hi : Int) (w : World) (hv1 : CiRow w v1 cs) (hv2 : CkRow w v2 ks) (hl1 : cs.length ≤ 9223372036854775807) (hl2 : ks.length ≤ 9223372036854775807) :
    Calls Tryz.prog 74 #[.agg #[v1, v2], .int .i64 id, .agg #[.int .i64 lo, .int .i64 hi]] w fun e w' => SnOut cs ks id lo hi w e w' := by
  obtain ⟨a1, c1, rfl, _⟩ := hv1.form
  obtain ⟨a2, c2, rfl, _⟩ := hv2.form
  have HCH := Lib.hid (fun w' (h : Below w.heap.size w w') => cCheck_any (.slice a1 cs.length c1) (.slice a2 ks.length c2) cs ks w' (hv1.keep h) (hv2.keep h) hl1 hl2)
  have HDI := Lib.hid (fun (ho : CcOk cs ks) w' (h : Below w.heap.size w w') => dialIn_any (.slice a1 cs.length c1) (.slice a2 ks.length c2) cs ks id lo hi w' (hv1.keep h) (hv2.keep h) ho)
  have HOK := Lib.hid (ccE_ok (cs := cs) (ks := ks))
  have HTT := Lib.hid (fun (ho : CcOk cs ks) z h => dlL_ok ho (id := id) (z := z) h)
  have HCI := Lib.hid (fun (ho : CcOk cs ks) z h => ciF_ok ho (id := id) (z := z) h)
  have HLE := Lib.hid (fun (ho : CcOk cs ks) z => dlL_len ho z)
  have HBD := Lib.hid (fun (ho : CcOk cs ks) z h => di_bd ho (id := id) (lo := lo) (hi := hi) (z := z) h)
  have HS1 : Hid (ccE cs ks ≠ 0 → snE cs ks id lo hi = ccE cs ks) := Lib.hid (fun h => by unfold snE; rw [if_neg h])
  have HS2 : Hid (ccE cs ks = 0 → snE cs ks id lo hi = diE (ciF cs id) ks lo hi) := Lib.hid (fun h => by unfold snE; rw [if_pos h])
  unfold DinOut at HDI
  unfold SnOut
  obtain ⟨E, hE⟩ : ∃ q, ccE cs ks = q := ⟨_, rfl⟩
  obtain ⟨NE, hNE⟩ : ∃ q, snE cs ks id lo hi = q := ⟨_, rfl⟩
  obtain ⟨DE, hDE⟩ : ∃ q, diE (ciF cs id) ks lo hi = q := ⟨_, rfl⟩
  obtain ⟨F, hF⟩ : ∃ q, ciF cs id = q := ⟨_, rfl⟩
  rw [hE] at HCH HOK HS1 HS2
  simp only [hDE] at HDI HBD HS2
  rw [hNE] at HS1 HS2 ⊢
  simp only [hF] at HDI HBD HTT HCI ⊢
  obtain ⟨i0, hi0, hz0, hz1, hz2⟩ := info_parts info_zsp
  clear hv1 hv2 hl1 hl2 hE hNE hDE hF
  obtain ⟨x0, x1, xlt, xb⟩ := two_cells w #[.slice a1 cs.length c1, .slice a2 ks.length c2] #[.int .i64 lo, .int .i64 hi] 25 36 (Below.refl _ _)
  have HNc : Hid (((w.alloc (.cells #[.slice a1 cs.length c1, .slice a2 ks.length c2] 25)).alloc (.cells #[.int .i64 lo, .int .i64 hi] 36)).heap[w.heap.size]? = some (.cells #[.slice a1 cs.length c1, .slice a2 ks.length c2] 25 (0, 0))) := Lib.hid x0
  have HNt : Hid (((w.alloc (.cells #[.slice a1 cs.length c1, .slice a2 ks.length c2] 25)).alloc (.cells #[.int .i64 lo, .int .i64 hi] 36)).heap[w.heap.size + 1]? = some (.cells #[.int .i64 lo, .int .i64 hi] 36 (0, 0))) := Lib.hid x1
  have HB : Hid (Below w.heap.size w ((w.alloc (.cells #[.slice a1 cs.length c1, .slice a2 ks.length c2] 25)).alloc (.cells #[.int .i64 lo, .int .i64 hi] 36))) := Lib.hid xb
  obtain ⟨Z, hZ⟩ : ∃ Z, ((w.alloc (.cells #[.slice a1 cs.length c1, .slice a2 ks.length c2] 25)).alloc (.cells #[.int .i64 lo, .int .i64 hi] 36)) = Z := ⟨_, rfl⟩
  rw [hZ] at HB HNc HNt
  have HZ := Lib.hid hZ
  clear hZ xlt xb x0 x1
  go_enter Tryz.func74, Tryz.ntmps74
  go_wp2_with fail
  rw [HZ.out]
  refine (HCH.out _ HB.out).mono ?_
  rintro e w1 ⟨rfl, hb⟩
  replace HB := Lib.hid (HB.out.trans (hb.mono HB.out.size))
  replace HNc := Lib.hid ((hb.block _ (Array.getElem?_eq_some_iff.1 HNc.out).1).trans HNc.out)
  replace HNt := Lib.hid ((hb.block _ (Array.getElem?_eq_some_iff.1 HNt.out).1).trans HNt.out)
  clear hb
  by_cases h0 : E = 0
  case neg =>
    have HN := Lib.hid (HS1.out h0)
    have gE : (E != 0) = true := by simpa using h0
    have HX := Lib.hid h0
    clear h0
    go_wp2_with fail
    go_ret2
    exact ⟨HB.out, (fun _ => by rw [HN.out]; rfl), fun h => absurd (HN.out.symm.trans h) HX.out⟩
  subst h0
  have HO := Lib.hid (HOK.out rfl)
  replace HS2 := Lib.hid (HS2.out rfl)
  replace HDI := Lib.hid (HDI.out HO.out)
  clear HS1 HOK
  have zc0 := cellH HNc.out 0
  have zc1 := cellH HNc.out 1
  have zt0 := cellH HNt.out 0
  have zt1 := cellH HNt.out 1
  simp only [List.getElem?_toArray, List.getElem?_cons_zero, List.getElem?_cons_succ] at zc0 zc1 zt0 zt1
  go_wp2_with fail
  refine (HDI.out _ HB.out).mono ?_
  rintro e w2 ⟨hb, h1, h2⟩
  clear zc0 zc1 zt0 zt1
  replace HB := Lib.hid (HB.out.trans (hb.mono HB.out.size))
  replace HNc := Lib.hid ((hb.block _ (Array.getElem?_eq_some_iff.1 HNc.out).1).trans HNc.out)
  replace HNt := Lib.hid ((hb.block _ (Array.getElem?_eq_some_iff.1 HNt.out).1).trans HNt.out)
  clear hb
  by_cases h0 : DE = 0
  case neg =>
    have hd := h1 h0
    unfold dl0 at hd
    subst hd
    have HN := Lib.hid HS2.out
    have HX := Lib.hid h0
    have gE : (DE != 0) = true := by simpa using h0
    clear h0 h1 h2
    have hAlc : Below w2.heap.size w2 (w2.alloc (.cells #[.int .i64 0, .int .i64 0, .int .i64 0, .int .i64 0, .int .i64 0, .int .i64 0, .int .i64 0, .int .i64 0, .slice none 0 0] 119)) := (Below.refl _ w2).alloc (Nat.le_refl _) _
    have HSd : Hid (w.heap.size ≤ w2.heap.size) := Lib.hid HB.out.size
    have HNd : Hid ((w2.alloc (.cells #[.int .i64 0, .int .i64 0, .int .i64 0, .int .i64 0, .int .i64 0, .int .i64 0, .int .i64 0, .int .i64 0, .slice none 0 0] 119)).heap[w2.heap.size]? = some (.cells #[.int .i64 0, .int .i64 0, .int .i64 0, .int .i64 0, .int .i64 0, .int .i64 0, .int .i64 0, .int .i64 0, .slice none 0 0] 119 (0, 0))) := Lib.hid (heap_alloc_new _ _)
    replace HB := Lib.hid (HB.out.trans (hAlc.mono HB.out.size))
    have HXc_d : Hid (w.heap.size ≠ w2.heap.size) := Lib.hid (Nat.ne_of_lt (Array.getElem?_eq_some_iff.1 HNc.out).1)
    have HXt_d : Hid (w.heap.size + 1 ≠ w2.heap.size) := Lib.hid (Nat.ne_of_lt (Array.getElem?_eq_some_iff.1 HNt.out).1)
    replace HNc := Lib.hid ((hAlc.block _ (Array.getElem?_eq_some_iff.1 HNc.out).1).trans HNc.out)
    replace HNt := Lib.hid ((hAlc.block _ (Array.getElem?_eq_some_iff.1 HNt.out).1).trans HNt.out)
    obtain ⟨ad, had⟩ : ∃ qq, w2.alloc (.cells #[.int .i64 0, .int .i64 0, .int .i64 0, .int .i64 0, .int .i64 0, .int .i64 0, .int .i64 0, .int .i64 0, .slice none 0 0] 119) = qq := ⟨_, rfl⟩
    obtain ⟨bkd, hbd⟩ : ∃ qq, w2.heap.size = qq := ⟨_, rfl⟩
    rw [had] at HB HNd HNc HNt
    rw [hbd] at HNd HSd HXc_d HXt_d
    clear hAlc
    have zd0 := cellH HNd.out 0
    have zd1 := cellH HNd.out 1
    have zd2 := cellH HNd.out 2
    have zd3 := cellH HNd.out 3
    have zd4 := cellH HNd.out 4
    have zd5 := cellH HNd.out 5
    have zd6 := cellH HNd.out 6
    have zd7 := cellH HNd.out 7
    have zd8 := cellH HNd.out 8
    simp only [List.getElem?_toArray, List.getElem?_cons_zero, List.getElem?_cons_succ] at zd0 zd1 zd2 zd3 zd4 zd5 zd6 zd7 zd8
    have zfd := freeH HNd.out
    replace HNc := Lib.hid ((heap_other ad (bkd) 0 (.int .i64 0) _ HXc_d.out).trans HNc.out)
    replace HNt := Lib.hid ((heap_other ad (bkd) 0 (.int .i64 0) _ HXt_d.out).trans HNt.out)
    replace HNd := Lib.hid (heap_same HNd.out 0 (.int .i64 0))
    simp only [List.setIfInBounds_toArray, List.set_cons_zero, List.set_cons_succ] at HNd
    replace HB := Lib.hid (HB.out.setCell (p := ⟨bkd, 0, none⟩) HSd.out (.int .i64 0))
    obtain ⟨s3, hs3⟩ : ∃ X, ad.setCell ⟨bkd, 0, none⟩ (.int .i64 0) = X := ⟨_, rfl⟩
    rw [hs3] at HB HNc HNt HNd
    have zd0_3 := cellH HNd.out 0
    have zd1_3 := cellH HNd.out 1
    have zd2_3 := cellH HNd.out 2
    have zd3_3 := cellH HNd.out 3
    have zd4_3 := cellH HNd.out 4
    have zd5_3 := cellH HNd.out 5
    have zd6_3 := cellH HNd.out 6
    have zd7_3 := cellH HNd.out 7
    have zd8_3 := cellH HNd.out 8
    simp only [List.getElem?_toArray, List.getElem?_cons_zero, List.getElem?_cons_succ] at zd0_3 zd1_3 zd2_3 zd3_3 zd4_3 zd5_3 zd6_3 zd7_3 zd8_3
    have zfd_3 := freeH HNd.out
    replace HNc := Lib.hid ((heap_other s3 (bkd) 1 (.int .i64 0) _ HXc_d.out).trans HNc.out)
    replace HNt := Lib.hid ((heap_other s3 (bkd) 1 (.int .i64 0) _ HXt_d.out).trans HNt.out)
    replace HNd := Lib.hid (heap_same HNd.out 1 (.int .i64 0))
    simp only [List.setIfInBounds_toArray, List.set_cons_zero, List.set_cons_succ] at HNd
    replace HB := Lib.hid (HB.out.setCell (p := ⟨bkd, 1, none⟩) HSd.out (.int .i64 0))
    obtain ⟨s4, hs4⟩ : ∃ X, s3.setCell ⟨bkd, 1, none⟩ (.int .i64 0) = X := ⟨_, rfl⟩
    rw [hs4] at HB HNc HNt HNd
    have zd0_4 := cellH HNd.out 0
    have zd1_4 := cellH HNd.out 1
    have zd2_4 := cellH HNd.out 2
    have zd3_4 := cellH HNd.out 3
    have zd4_4 := cellH HNd.out 4
    have zd5_4 := cellH HNd.out 5
    have zd6_4 := cellH HNd.out 6
    have zd7_4 := cellH HNd.out 7
    have zd8_4 := cellH HNd.out 8
    simp only [List.getElem?_toArray, List.getElem?_cons_zero, List.getElem?_cons_succ] at zd0_4 zd1_4 zd2_4 zd3_4 zd4_4 zd5_4 zd6_4 zd7_4 zd8_4
    have zfd_4 := freeH HNd.out
    replace HNc := Lib.hid ((heap_other s4 (bkd) 2 (.int .i64 0) _ HXc_d.out).trans HNc.out)
    replace HNt := Lib.hid ((heap_other s4 (bkd) 2 (.int .i64 0) _ HXt_d.out).trans HNt.out)
    replace HNd := Lib.hid (heap_same HNd.out 2 (.int .i64 0))
    simp only [List.setIfInBounds_toArray, List.set_cons_zero, List.set_cons_succ] at HNd
    replace HB := Lib.hid (HB.out.setCell (p := ⟨bkd, 2, none⟩) HSd.out (.int .i64 0))
    obtain ⟨s5, hs5⟩ : ∃ X, s4.setCell ⟨bkd, 2, none⟩ (.int .i64 0) = X := ⟨_, rfl⟩
    rw [hs5] at HB HNc HNt HNd
    have zd0_5 := cellH HNd.out 0
    have zd1_5 := cellH HNd.out 1
    have zd2_5 := cellH HNd.out 2
    have zd3_5 := cellH HNd.out 3
    have zd4_5 := cellH HNd.out 4
    have zd5_5 := cellH HNd.out 5
    have zd6_5 := cellH HNd.out 6
    have zd7_5 := cellH HNd.out 7
    have zd8_5 := cellH HNd.out 8
    simp only [List.getElem?_toArray, List.getElem?_cons_zero, List.getElem?_cons_succ] at zd0_5 zd1_5 zd2_5 zd3_5 zd4_5 zd5_5 zd6_5 zd7_5 zd8_5
    have zfd_5 := freeH HNd.out
    replace HNc := Lib.hid ((heap_other s5 (bkd) 3 (.int .i64 0) _ HXc_d.out).trans HNc.out)
    replace HNt := Lib.hid ((heap_other s5 (bkd) 3 (.int .i64 0) _ HXt_d.out).trans HNt.out)
    replace HNd := Lib.hid (heap_same HNd.out 3 (.int .i64 0))
    simp only [List.setIfInBounds_toArray, List.set_cons_zero, List.set_cons_succ] at HNd
    replace HB := Lib.hid (HB.out.setCell (p := ⟨bkd, 3, none⟩) HSd.out (.int .i64 0))
    obtain ⟨s6, hs6⟩ : ∃ X, s5.setCell ⟨bkd, 3, none⟩ (.int .i64 0) = X := ⟨_, rfl⟩
    rw [hs6] at HB HNc HNt HNd
    have zd0_6 := cellH HNd.out 0
    have zd1_6 := cellH HNd.out 1
    have zd2_6 := cellH HNd.out 2
    have zd3_6 := cellH HNd.out 3
    have zd4_6 := cellH HNd.out 4
    have zd5_6 := cellH HNd.out 5
    have zd6_6 := cellH HNd.out 6
    have zd7_6 := cellH HNd.out 7
    have zd8_6 := cellH HNd.out 8
    simp only [List.getElem?_toArray, List.getElem?_cons_zero, List.getElem?_cons_succ] at zd0_6 zd1_6 zd2_6 zd3_6 zd4_6 zd5_6 zd6_6 zd7_6 zd8_6
    have zfd_6 := freeH HNd.out
    replace HNc := Lib.hid ((heap_other s6 (bkd) 4 (.int .i64 0) _ HXc_d.out).trans HNc.out)
    replace HNt := Lib.hid ((heap_other s6 (bkd) 4 (.int .i64 0) _ HXt_d.out).trans HNt.out)
    replace HNd := Lib.hid (heap_same HNd.out 4 (.int .i64 0))
    simp only [List.setIfInBounds_toArray, List.set_cons_zero, List.set_cons_succ] at HNd
    replace HB := Lib.hid (HB.out.setCell (p := ⟨bkd, 4, none⟩) HSd.out (.int .i64 0))
    obtain ⟨s7, hs7⟩ : ∃ X, s6.setCell ⟨bkd, 4, none⟩ (.int .i64 0) = X := ⟨_, rfl⟩
    rw [hs7] at HB HNc HNt HNd
    have zd0_7 := cellH HNd.out 0
    have zd1_7 := cellH HNd.out 1
    have zd2_7 := cellH HNd.out 2
    have zd3_7 := cellH HNd.out 3
    have zd4_7 := cellH HNd.out 4
    have zd5_7 := cellH HNd.out 5
    have zd6_7 := cellH HNd.out 6
    have zd7_7 := cellH HNd.out 7
    have zd8_7 := cellH HNd.out 8
    simp only [List.getElem?_toArray, List.getElem?_cons_zero, List.getElem?_cons_succ] at zd0_7 zd1_7 zd2_7 zd3_7 zd4_7 zd5_7 zd6_7 zd7_7 zd8_7
    have zfd_7 := freeH HNd.out
    replace HNc := Lib.hid ((heap_other s7 (bkd) 5 (.int .i64 0) _ HXc_d.out).trans HNc.out)
    replace HNt := Lib.hid ((heap_other s7 (bkd) 5 (.int .i64 0) _ HXt_d.out).trans HNt.out)
    replace HNd := Lib.hid (heap_same HNd.out 5 (.int .i64 0))
    simp only [List.setIfInBounds_toArray, List.set_cons_zero, List.set_cons_succ] at HNd
    replace HB := Lib.hid (HB.out.setCell (p := ⟨bkd, 5, none⟩) HSd.out (.int .i64 0))
    obtain ⟨s8, hs8⟩ : ∃ X, s7.setCell ⟨bkd, 5, none⟩ (.int .i64 0) = X := ⟨_, rfl⟩
    rw [hs8] at HB HNc HNt HNd
    have zd0_8 := cellH HNd.out 0
    have zd1_8 := cellH HNd.out 1
    have zd2_8 := cellH HNd.out 2
    have zd3_8 := cellH HNd.out 3
    have zd4_8 := cellH HNd.out 4
    have zd5_8 := cellH HNd.out 5
    have zd6_8 := cellH HNd.out 6
    have zd7_8 := cellH HNd.out 7
    have zd8_8 := cellH HNd.out 8
    simp only [List.getElem?_toArray, List.getElem?_cons_zero, List.getElem?_cons_succ] at zd0_8 zd1_8 zd2_8 zd3_8 zd4_8 zd5_8 zd6_8 zd7_8 zd8_8
    have zfd_8 := freeH HNd.out
    replace HNc := Lib.hid ((heap_other s8 (bkd) 6 (.int .i64 0) _ HXc_d.out).trans HNc.out)
    replace HNt := Lib.hid ((heap_other s8 (bkd) 6 (.int .i64 0) _ HXt_d.out).trans HNt.out)
    replace HNd := Lib.hid (heap_same HNd.out 6 (.int .i64 0))
    simp only [List.setIfInBounds_toArray, List.set_cons_zero, List.set_cons_succ] at HNd
    replace HB := Lib.hid (HB.out.setCell (p := ⟨bkd, 6, none⟩) HSd.out (.int .i64 0))
    obtain ⟨s9, hs9⟩ : ∃ X, s8.setCell ⟨bkd, 6, none⟩ (.int .i64 0) = X := ⟨_, rfl⟩
    rw [hs9] at HB HNc HNt HNd
    have zd0_9 := cellH HNd.out 0
    have zd1_9 := cellH HNd.out 1
    have zd2_9 := cellH HNd.out 2
    have zd3_9 := cellH HNd.out 3
    have zd4_9 := cellH HNd.out 4
    have zd5_9 := cellH HNd.out 5
    have zd6_9 := cellH HNd.out 6
    have zd7_9 := cellH HNd.out 7
    have zd8_9 := cellH HNd.out 8
    simp only [List.getElem?_toArray, List.getElem?_cons_zero, List.getElem?_cons_succ] at zd0_9 zd1_9 zd2_9 zd3_9 zd4_9 zd5_9 zd6_9 zd7_9 zd8_9
    have zfd_9 := freeH HNd.out
    replace HNc := Lib.hid ((heap_other s9 (bkd) 7 (.int .i64 0) _ HXc_d.out).trans HNc.out)
    replace HNt := Lib.hid ((heap_other s9 (bkd) 7 (.int .i64 0) _ HXt_d.out).trans HNt.out)
    replace HNd := Lib.hid (heap_same HNd.out 7 (.int .i64 0))
    simp only [List.setIfInBounds_toArray, List.set_cons_zero, List.set_cons_succ] at HNd
    replace HB := Lib.hid (HB.out.setCell (p := ⟨bkd, 7, none⟩) HSd.out (.int .i64 0))
    obtain ⟨s10, hs10⟩ : ∃ X, s9.setCell ⟨bkd, 7, none⟩ (.int .i64 0) = X := ⟨_, rfl⟩
    rw [hs10] at HB HNc HNt HNd
    have zd0_10 := cellH HNd.out 0
    have zd1_10 := cellH HNd.out 1
    have zd2_10 := cellH HNd.out 2
    have zd3_10 := cellH HNd.out 3
    have zd4_10 := cellH HNd.out 4
    have zd5_10 := cellH HNd.out 5
    have zd6_10 := cellH HNd.out 6
    have zd7_10 := cellH HNd.out 7
    have zd8_10 := cellH HNd.out 8
    simp only [List.getElem?_toArray, List.getElem?_cons_zero, List.getElem?_cons_succ] at zd0_10 zd1_10 zd2_10 zd3_10 zd4_10 zd5_10 zd6_10 zd7_10 zd8_10
    have zfd_10 := freeH HNd.out
    replace HNc := Lib.hid ((heap_other s10 (bkd) 8 (.slice none 0 0) _ HXc_d.out).trans HNc.out)
    replace HNt := Lib.hid ((heap_other s10 (bkd) 8 (.slice none 0 0) _ HXt_d.out).trans HNt.out)
    replace HNd := Lib.hid (heap_same HNd.out 8 (.slice none 0 0))
    simp only [List.setIfInBounds_toArray, List.set_cons_zero, List.set_cons_succ] at HNd
    replace HB := Lib.hid (HB.out.setCell (p := ⟨bkd, 8, none⟩) HSd.out (.slice none 0 0))
    obtain ⟨s11, hs11⟩ : ∃ X, s10.setCell ⟨bkd, 8, none⟩ (.slice none 0 0) = X := ⟨_, rfl⟩
    rw [hs11] at HB HNc HNt HNd
    go_wp2_with fail
    try clear had hbd hs3 hs4 hs5 hs6 hs7 hs8 hs9 hs10 hs11
    go_ret2
    exact ⟨HB.out, (fun _ => by rw [HN.out]; rfl), fun h => absurd (HN.out.symm.trans h) HX.out⟩
  obtain ⟨z, v, hz, rfl, hr⟩ := h2 h0
  have HBD2 := Lib.hid (HBD.out HO.out z hz h0)
  have hzo := Ci.ok_iff.1 (HCI.out HO.out z hz)
  have HTO := Lib.hid (HTT.out HO.out z hz)
  have HLL := Lib.hid (HLE.out HO.out z)
  have HZ8 := Lib.hid hz
  obtain ⟨L, hL⟩ : ∃ q, dlL z ks = q := ⟨_, rfl⟩
  rw [hL] at HTO HLL hr
  have HLEQ := Lib.hid hL
  obtain ⟨va, vc, rfl, _⟩ := hr.form
  obtain ⟨vn, hvn⟩ : ∃ q, L.length = q := ⟨_, rfl⟩
  rw [hvn] at hr ⊢
  obtain ⟨di, dx, dy, df, dt, dl, dh, dr⟩ := z
  simp only at HLEQ hzo HBD2
  have HDR := Lib.hid (show 0 ≤ dr ∧ dr ≤ 60 by omega)
  have HB3 := Lib.hid (show 0 ≤ lo ∧ lo ≤ hi ∧ hi ≤ 1048576 ∧ hi - lo < 400 from ⟨HBD2.out.1, HBD2.out.2.1, HBD2.out.2.2.1, HBD2.out.2.2.2.1⟩)
  have HR := Lib.hid hr
  have HSPN := Lib.hid (fun t w' h1 ht => span_any ⟨di, dx, dy, df, dt, dl, dh, dr⟩ (.slice va vn vc) L t w' h1 (by have := HLL.out; omega) (by have := HDR.out; simp only; omega) ht HTO.out)
  obtain ⟨N, hN⟩ : ∃ q, (hi - lo + 1).toNat = q := ⟨_, rfl⟩
  have HNN := Lib.hid (show (N : Int) = hi - lo + 1 by have := HB3.out; omega)
  have HNE := Lib.hid hN
  subst h0
  clear hr hz hL hzo hvn hN h1 h2 HTT HCI HLE HBD HBD2
  have hAlc : Below w2.heap.size w2 (w2.alloc (.cells #[.int .i64 di, .int .i64 dx, .int .i64 dy, .int .i64 df, .int .i64 dt, .int .i64 dl, .int .i64 dh, .int .i64 dr, .slice va vn vc] 119)) := (Below.refl _ w2).alloc (Nat.le_refl _) _
  have HSd : Hid (w.heap.size ≤ w2.heap.size) := Lib.hid HB.out.size
  have HNd : Hid ((w2.alloc (.cells #[.int .i64 di, .int .i64 dx, .int .i64 dy, .int .i64 df, .int .i64 dt, .int .i64 dl, .int .i64 dh, .int .i64 dr, .slice va vn vc] 119)).heap[w2.heap.size]? = some (.cells #[.int .i64 di, .int .i64 dx, .int .i64 dy, .int .i64 df, .int .i64 dt, .int .i64 dl, .int .i64 dh, .int .i64 dr, .slice va vn vc] 119 (0, 0))) := Lib.hid (heap_alloc_new _ _)
  replace HB := Lib.hid (HB.out.trans (hAlc.mono HB.out.size))
  have HXc_d : Hid (w.heap.size ≠ w2.heap.size) := Lib.hid (Nat.ne_of_lt (Array.getElem?_eq_some_iff.1 HNc.out).1)
  have HXt_d : Hid (w.heap.size + 1 ≠ w2.heap.size) := Lib.hid (Nat.ne_of_lt (Array.getElem?_eq_some_iff.1 HNt.out).1)
  replace HNc := Lib.hid ((hAlc.block _ (Array.getElem?_eq_some_iff.1 HNc.out).1).trans HNc.out)
  replace HNt := Lib.hid ((hAlc.block _ (Array.getElem?_eq_some_iff.1 HNt.out).1).trans HNt.out)
  replace HR := Lib.hid (HR.out.keep hAlc)
  obtain ⟨ad, had⟩ : ∃ qq, w2.alloc (.cells #[.int .i64 di, .int .i64 dx, .int .i64 dy, .int .i64 df, .int .i64 dt, .int .i64 dl, .int .i64 dh, .int .i64 dr, .slice va vn vc] 119) = qq := ⟨_, rfl⟩
  obtain ⟨bkd, hbd⟩ : ∃ qq, w2.heap.size = qq := ⟨_, rfl⟩
  rw [had] at HB HNd HNc HNt HR
  rw [hbd] at HNd HSd HXc_d HXt_d
  clear hAlc
  have zt0 := cellH HNt.out 0
  have zt1 := cellH HNt.out 1
  simp only [List.getElem?_toArray, List.getElem?_cons_zero, List.getElem?_cons_succ] at zt0 zt1
  try simp only at HSPN
  go_wp2_with fail
  try clear had hbd
  clear zt0 zt1
  have HWB := Lib.hid HB.out.size
  have HQ : Hid (BlC ad ad) := Lib.hid (Below.refl _ _)
  have HOW : Hid (OwS ad ad.heap.size (.slice none 0 0) (spN dr L lo 0)) := Lib.hid ⟨rfl, .inl ⟨rfl, rfl⟩⟩
  have HNcW := HNc
  have HNtW := HNt
  have HNdW := HNd
  go_loopw [11, 12] (fun x t wr => ∃ (j : Nat) (o : Value), j ≤ N ∧ x = o ∧ t = .int .i64 (lo + (j : Int)) ∧ Hid (OwS wr ad.heap.size o (spN dr L lo j)) ∧ Hid (Below w.heap.size w wr) ∧ Hid (wr.heap[w.heap.size]? = some (.cells #[.slice a1 cs.length c1, .slice a2 ks.length c2] 25 (0, 0))) ∧ Hid (wr.heap[w.heap.size + 1]? = some (.cells #[.int .i64 lo, .int .i64 hi] 36 (0, 0))) ∧ Hid (wr.heap[bkd]? = some (.cells #[.int .i64 di, .int .i64 dx, .int .i64 dy, .int .i64 df, .int .i64 dt, .int .i64 dl, .int .i64 dh, .int .i64 dr, .slice va vn vc] 119 (0, 0))) ∧ Hid (BlC ad wr)) (fun _ t _ => (hi + 1 - intOf t).toNat)
  case atStart => exact ⟨0, _, Nat.zero_le _, rfl, by simp, HOW, HB, HNc, HNt, HNd, HQ⟩
  case round =>
    clear HB HNc HNt HNd HQ
    clear HOW
    obtain ⟨j, o, hj, hx5, rfl, HOW, HB, HNc, HNt, HNd, HQ⟩ := hrel
    have hx5 := hx5.symm
    subst hx5
    have hb3 := HB3.out
    have hnn := HNN.out
    by_cases hjl : j < N
    · have HJL := Lib.hid hjl
      have HSC : Hid (spN dr L lo (j + 1) = spN dr L lo j ++ [(spLo dr L (lo + j), spHi dr L (lo + j))]) := Lib.hid (spN_succ dr L lo j)
      have HLN := Lib.hid (spN_len dr L lo j)
      have HSJ := Lib.hid (fun w' h1 => HSPN.out (lo + j) w' h1 ⟨by omega, by omega⟩)
      obtain ⟨T, hT⟩ : ∃ q, lo + (j : Int) = q := ⟨_, rfl⟩
      have HTS := Lib.hid (show lo + ((j + 1 : Nat) : Int) = T + 1 by omega)
      have ht1 : T ≤ hi := by omega
      have ht2 : 0 ≤ T ∧ T ≤ 1048576 := by omega
      rw [hT] at HSC HSJ
      rw [hT]
      obtain ⟨SL, hSL⟩ : ∃ q, spLo dr L T = q := ⟨_, rfl⟩
      obtain ⟨SH, hSH⟩ : ∃ q, spHi dr L T = q := ⟨_, rfl⟩
      try simp only at HSJ
      rw [hSL, hSH] at HSC HSJ
      obtain ⟨FL, hFL⟩ : ∃ q, spN dr L lo j = q := ⟨_, rfl⟩
      rw [hFL] at HSC HOW HLN
      have HRW := Lib.hid (HR.out.keep HQ.out)
      have HTB := Lib.hid (show T ≤ hi ∧ 0 ≤ T ∧ T ≤ 1048576 ∧ hi ≤ 1048576 by omega)
      have HJN := Lib.hid (show j < 400 by omega)
      clear hT hSL hSH hFL hb3 hnn hjl hj
      have zt0 := cellH HNt.out 0
      have zt1 := cellH HNt.out 1
      have zd0 := cellH HNd.out 0
      have zd1 := cellH HNd.out 1
      have zd2 := cellH HNd.out 2
      have zd3 := cellH HNd.out 3
      have zd4 := cellH HNd.out 4
      have zd5 := cellH HNd.out 5
      have zd6 := cellH HNd.out 6
      have zd7 := cellH HNd.out 7
      have zd8 := cellH HNd.out 8
      simp only [List.getElem?_toArray, List.getElem?_cons_zero, List.getElem?_cons_succ] at zt0 zt1 zd0 zd1 zd2 zd3 zd4 zd5 zd6 zd7 zd8
      go_wp2_with fail
      refine (HSJ.out _ HRW.out).mono ?_
      rintro e w12 ⟨rfl, hb⟩
      clear zt0 zt1 zd0 zd1 zd2 zd3 zd4 zd5 zd6 zd7 zd8
      replace HB := Lib.hid (HB.out.trans (hb.mono HB.out.size))
      replace HNc := Lib.hid ((hb.block _ (Array.getElem?_eq_some_iff.1 HNc.out).1).trans HNc.out)
      replace HNt := Lib.hid ((hb.block _ (Array.getElem?_eq_some_iff.1 HNt.out).1).trans HNt.out)
      replace HNd := Lib.hid ((hb.block _ (Array.getElem?_eq_some_iff.1 HNd.out).1).trans HNd.out)
      replace HQ := Lib.hid (HQ.out.keep hb)
      replace HOW := Lib.hid (HOW.out.keep hb)
      clear hb HRW HSJ
      have hjn := HJN.out
      have hln := HLN.out
      have h63 : FL.length + 1 ≤ maxLen := by unfold maxLen; omega
      have hby : (FL.length + 1) * 16 ≤ 140737488355328 := by omega
      have hbase : ad.heap.size ≤ w12.heap.size := Below.size HQ.out
      have hO4 := HOW.out
      unfold OwS at hO4
      have HNW := Lib.hid (fun j u => cell_add (heap_alloc_new w12 (.cells #[.int .i64 SL, .int .i64 SH] 36)) j u)
      obtain ⟨ht1, ht2, ht3, ht4⟩ := HTB.out
      go_wp2_with (at_builtin; refine wpList_append_own _ rfl _ _ 138 rfl ad.heap.size 36 i0 (.agg #[.int .i64 0, .int .i64 0]) 2 16 Tryz.underlying138 hi0 hz0 hz1 hz2 rfl (by decide) _ _ _ rfl (World.ownsRow.alloc hO4 _) ⟨w12.heap.size, 0, none⟩ 1 1 [.int .i64 SL, .int .i64 SH] rfl rfl HNW.out (by simp [Value.oneCell']) h63 hby (by simp; omega) ?_; intro v' w5 hown' hgrow _)
      have HB5 : Hid (Below w.heap.size w w5) := Lib.hid ((HB.out.alloc HB.out.size _).grown hgrow (by have := HB.out.size; simp; omega) (fun j e => Nat.le_trans HWB.out (World.ownsRow.lt hO4 j e).1))
      have HQ5 : Hid (BlC ad w5) := Lib.hid ((Below.alloc HQ.out (Below.size HQ.out) _).grown hgrow (by simp; omega) (fun j e => (World.ownsRow.lt hO4 j e).1))
      have HO5 : Hid (OwS w5 ad.heap.size v' (spN dr L lo (j + 1))) := Lib.hid (by
        rw [HSC.out]
        unfold OwS
        rw [List.length_append, List.flatMap_append]; exact hown')
      have HNc5 := Lib.hid ((Below.block HQ5.out _ (Array.getElem?_eq_some_iff.1 HNcW.out).1).trans HNcW.out)
      have HNt5 := Lib.hid ((Below.block HQ5.out _ (Array.getElem?_eq_some_iff.1 HNtW.out).1).trans HNtW.out)
      have HNd5 := Lib.hid ((Below.block HQ5.out _ (Array.getElem?_eq_some_iff.1 HNdW.out).1).trans HNdW.out)
      clear hown' hgrow hO4
      go_roundw
      case rel => exact ⟨j + 1, v', HJL.out, rfl, by rw [HTS.out], HO5, HB5, HNc5, HNt5, HNd5, HQ5⟩
      case measure => simp [intOf]; omega
    · obtain rfl : j = N := by omega
      have hj1 : ¬ lo + (j : Int) ≤ hi := by omega
      have HPR := Lib.hid HOW.out.row
      clear hb3 hnn hjl hj
      have zt0 := cellH HNt.out 0
      have zt1 := cellH HNt.out 1
      simp only [List.getElem?_toArray, List.getElem?_cons_zero, List.getElem?_cons_succ] at zt0 zt1
      go_wp2_with fail
      go_ret2
      exact ⟨HB.out, fun h => absurd HS2.out h, fun _ => SnHit.mk HZ8.out rfl (by rw [HNE.out, HLEQ.out]; exact HPR.out)⟩
end Go.Proofs.YtebdboacmeafaaaGreat
