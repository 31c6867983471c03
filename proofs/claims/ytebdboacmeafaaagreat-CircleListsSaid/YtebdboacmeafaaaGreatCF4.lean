/- Package firetowerref05: clashing. -/
import Derived.Test.YtebdboacmeafaaaGreatCF2
import Derived.Test.YtebdboacmeafaaaGreatCF3
set_option linter.unusedVariables false
set_option linter.unusedSimpArgs false
namespace Go.Proofs.YtebdboacmeafaaaGreat
open Go Go.RowKit

/-- The things of numbers i and k make a pair. -/
def gC (dr : Int) (L : List Th) (i k : Nat) : Bool := (i == k && (L.getD i .nil).no) || (decide ((L.getD i .nil).id < (L.getD k .nil).id) && !(L.getD i .nil).no && !(L.getD k .nil).no && agB dr (L.getD i .nil) (L.getD k .nil))
def gRow (dr : Int) (L : List Th) (i : Nat) : Nat → List Pi2 → List Pi2
  | 0, o => o
  | k + 1, o => if gC dr L i k = true then putP (gRow dr L i k o) ((L.getD i .nil).id, (L.getD k .nil).id) else gRow dr L i k o
/-- The pairs of the first things, in order. -/
def gAll (dr : Int) (L : List Th) : Nat → List Pi2
  | 0 => []
  | i + 1 => gRow dr L i L.length (gAll dr L i)
theorem gRow_len (dr : Int) (L : List Th) (i : Nat) (o : List Pi2) : ∀ k, (gRow dr L i k o).length ≤ o.length + k
  | 0 => Nat.le_refl _
  | k + 1 => by
    have := gRow_len dr L i o k
    show (if _ then _ else _ : List Pi2).length ≤ _
    split
    · rw [putP_len]; omega
    · omega
theorem gAll_len (dr : Int) (L : List Th) : ∀ i, (gAll dr L i).length ≤ i * L.length
  | 0 => Nat.zero_le _
  | i + 1 => by
    have h1 := gAll_len dr L i
    have h2 := gRow_len dr L i (gAll dr L i) L.length
    show (gRow dr L i L.length (gAll dr L i)).length ≤ _
    rw [Nat.succ_mul]; omega
/-- What clashing returns. -/
def ClgOut (l : List Pi2) (w : World) (e : Ending) (w' : World) : Prop := ∃ v, e = .returned v ∧ P2Row w' v l ∧ Below w.heap.size w w'
set_option maxRecDepth 100000 in
set_option maxHeartbeats 8000000 in
theorem clashing_any (v1 v2 : Value) (cs : List Ci) (ks : List Ck) (z : Ci) (w : World) (hv1 : CiRow w v1 cs) (hv2 : CkRow w v2 ks) (ho : CcOk cs ks) (hz : ciF cs z.id = some z) :
    Calls Tryz.prog 57 #[.agg #[v1, v2], z.val] w fun e w' => ClgOut (gAll z.dr (thL z ks) (thL z ks).length) w e w' := by
  have HTH := Lib.hid (fun w' (h : Below w.heap.size w w') => things_any v1 v2 cs ks z w' (hv1.keep h) (hv2.keep h) ho hz)
  have HTL := Lib.hid (thL_len (z := z) (ks := ks) ho.m)
  have hzo := Ci.ok_iff.1 (ciF_ok ho hz)
  have HDR := Lib.hid (show 0 ≤ z.dr ∧ z.dr ≤ 60 from ⟨by omega, by omega⟩)
  have HOKL : Hid (∀ j, j < (thL z ks).length → ((thL z ks).getD j .nil).ok) := Lib.hid (fun j hj => dlL_ok ho hz _ ((srtH_perm _).mem_iff.2 (by rw [List.getD_eq_getElem?_getD, List.getElem?_eq_getElem hj]; exact List.getElem_mem _)))
  have HGL := Lib.hid (fun i => gAll_len z.dr (thL z ks) i)
  have HRL := Lib.hid (fun i o k => gRow_len z.dr (thL z ks) i o k)
  have HAG := Lib.hid (fun a b w' (ha : Th.ok a) (hb : Th.ok b) => against_any z a b w' HDR.out ha hb)
  obtain ⟨L, hL⟩ : ∃ L, thL z ks = L := ⟨_, rfl⟩
  unfold ThgOut at HTH
  rw [hL] at HTH HTL HOKL HGL HRL ⊢
  obtain ⟨a1, c1, rfl, _⟩ := hv1.form
  obtain ⟨a2, c2, rfl, _⟩ := hv2.form
  clear hzo hL hv1 hv2 ho hz
  obtain ⟨zi, zx, zy, zf, zt, zl, zh, dr⟩ := z
  simp only at HAG HDR HGL HRL ⊢
  obtain ⟨x0, x1, xlt, xb⟩ := two_cells w #[.slice a1 cs.length c1, .slice a2 ks.length c2] #[.int .i64 zi, .int .i64 zx, .int .i64 zy, .int .i64 zf, .int .i64 zt, .int .i64 zl, .int .i64 zh, .int .i64 dr] 25 93 (Below.refl _ _)
  have HNc : Hid (((w.alloc (.cells #[.slice a1 cs.length c1, .slice a2 ks.length c2] 25)).alloc (.cells #[.int .i64 zi, .int .i64 zx, .int .i64 zy, .int .i64 zf, .int .i64 zt, .int .i64 zl, .int .i64 zh, .int .i64 dr] 93)).heap[w.heap.size]? = some (.cells #[.slice a1 cs.length c1, .slice a2 ks.length c2] 25 (0, 0))) := Lib.hid x0
  have HNx : Hid (((w.alloc (.cells #[.slice a1 cs.length c1, .slice a2 ks.length c2] 25)).alloc (.cells #[.int .i64 zi, .int .i64 zx, .int .i64 zy, .int .i64 zf, .int .i64 zt, .int .i64 zl, .int .i64 zh, .int .i64 dr] 93)).heap[w.heap.size + 1]? = some (.cells #[.int .i64 zi, .int .i64 zx, .int .i64 zy, .int .i64 zf, .int .i64 zt, .int .i64 zl, .int .i64 zh, .int .i64 dr] 93 (0, 0))) := Lib.hid x1
  have HB : Hid (Below w.heap.size w ((w.alloc (.cells #[.slice a1 cs.length c1, .slice a2 ks.length c2] 25)).alloc (.cells #[.int .i64 zi, .int .i64 zx, .int .i64 zy, .int .i64 zf, .int .i64 zt, .int .i64 zl, .int .i64 zh, .int .i64 dr] 93))) := Lib.hid xb
  obtain ⟨Z, hZ⟩ : ∃ Z, ((w.alloc (.cells #[.slice a1 cs.length c1, .slice a2 ks.length c2] 25)).alloc (.cells #[.int .i64 zi, .int .i64 zx, .int .i64 zy, .int .i64 zf, .int .i64 zt, .int .i64 zl, .int .i64 zh, .int .i64 dr] 93)) = Z := ⟨_, rfl⟩
  rw [hZ] at HB HNc HNx
  have HZ := Lib.hid hZ
  clear hZ xlt xb x0 x1
  go_enter Tryz.func57, Tryz.ntmps57
  go_wp2_with fail
  rw [HZ.out]
  refine (HTH.out _ HB.out).mono ?_
  rintro e w1 ⟨tv, rfl, hT, hb⟩
  replace HB := Lib.hid (HB.out.trans (hb.mono HB.out.size))
  replace HNc := Lib.hid ((hb.block _ (Array.getElem?_eq_some_iff.1 HNc.out).1).trans HNc.out)
  replace HNx := Lib.hid ((hb.block _ (Array.getElem?_eq_some_iff.1 HNx.out).1).trans HNx.out)
  clear hb
  have HT := Lib.hid hT
  obtain ⟨ta, tc, rfl, _⟩ := hT.form
  clear hT
  clear HNc
  go_wp2_with fail
  go_loopw [6, 7] (fun x i wr => ∃ (k : Nat) (o : Value), k ≤ L.length ∧ x = o ∧ i = .int .i64 k ∧ Hid (P2Row wr o (gAll dr L k)) ∧ Hid (P2Cap o) ∧ Hid (Below w.heap.size w wr) ∧ Hid (wr.heap[w.heap.size + 1]? = some (.cells #[.int .i64 zi, .int .i64 zx, .int .i64 zy, .int .i64 zf, .int .i64 zt, .int .i64 zl, .int .i64 zh, .int .i64 dr] 93 (0, 0))) ∧ Hid (TgRow wr (.slice ta L.length tc) L)) (fun _ i _ => L.length - (intOf i).toNat)
  case atStart => exact ⟨0, _, Nat.zero_le _, rfl, rfl, Lib.hid (.inl ⟨_, _, rfl, rfl⟩), Lib.hid ⟨_, _, _, rfl, Nat.le_refl _⟩, HB, HNx, HT⟩
  case round =>
    clear HB HNx HT
    obtain ⟨k, o, hk, hx5, rfl, hP, hQ, HB, HNx, HT⟩ := hrel
    have hx5 := hx5.symm
    subst hx5
    have htl := HTL.out
    by_cases hkl : k < L.length
    · obtain ⟨ta2, tc2, htq, hTf⟩ := HT.out.form
      cases htq
      obtain ⟨b, off, rfl, hb, hat⟩ := hTf k hkl
      have hki : (k : Int) < L.length := by omega
      have hk0 : (0 : Int) ≤ k := by omega
      have HKL := Lib.hid hkl
      clear hTf hb hat
      go_wp2_with fail
      go_loopw [6, 8] (fun x i wr => ∃ (m : Nat) (q : Value), m ≤ L.length ∧ x = q ∧ i = .int .i64 m ∧ Hid (P2Row wr q (gRow dr L k m (gAll dr L k))) ∧ Hid (P2Cap q) ∧ Hid (Below w.heap.size w wr) ∧ Hid (wr.heap[w.heap.size + 1]? = some (.cells #[.int .i64 zi, .int .i64 zx, .int .i64 zy, .int .i64 zf, .int .i64 zt, .int .i64 zl, .int .i64 zh, .int .i64 dr] 93 (0, 0))) ∧ Hid (TgRow wr (.slice (some ⟨b, off, none⟩) L.length tc) L)) (fun _ i _ => L.length - (intOf i).toNat)
      case atStart => exact ⟨0, o, Nat.zero_le _, rfl, rfl, hP, hQ, HB, HNx, HT⟩
      case round =>
        clear HB HNx HT
        clear hP hQ
        obtain ⟨m, q, hm, hx6, rfl, hP, hQ, HB, HNx, HT⟩ := hrel
        have hx6 := hx6.symm
        subst hx6
        have htl := HTL.out
        by_cases hml : m < L.length
        · obtain ⟨ta2, tc2, htq, hTf⟩ := HT.out.form
          cases htq
          obtain ⟨b2, off2, heq, hb, hat⟩ := hTf k HKL.out
          cases heq
          obtain ⟨b3, off3, heq, hb3, hat3⟩ := hTf m hml
          cases heq
          have HML := Lib.hid hml
          have HAT := Lib.hid hat
          have HAT3 := Lib.hid hat3
          have HBL := Lib.hid hb
          have hmi : (m : Int) < L.length := by omega
          have hm0 : (0 : Int) ≤ m := by omega
          have hki : (k : Int) < L.length := by have := HKL.out; omega
          have hk0 : (0 : Int) ≤ k := by omega
          have HLEN : Hid ((gRow dr L k m (gAll dr L k)).length ≤ 4000) := Lib.hid (by
            have h1 := HGL.out k
            have h2 := HRL.out k (gAll dr L k) m
            have h3 : k * L.length ≤ 60 * 61 := Nat.mul_le_mul (by have := HKL.out; omega) htl
            omega)
          have HPU := Lib.hid (fun p1 p2 w' h => put_any q (gRow dr L k m (gAll dr L k)) p1 p2 w' h hQ.out HLEN.out)
          have HGC : Hid (gC dr L k m = ((k == m && (L.getD k .nil).no) || (decide ((L.getD k .nil).id < (L.getD m .nil).id) && !(L.getD k .nil).no && !(L.getD m .nil).no && agB dr (L.getD k .nil) (L.getD m .nil)))) := Lib.hid rfl
          have HST : Hid (gRow dr L k (m + 1) (gAll dr L k) = if gC dr L k m = true then putP (gRow dr L k m (gAll dr L k)) ((L.getD k .nil).id, (L.getD m .nil).id) else gRow dr L k m (gAll dr L k)) := Lib.hid rfl
          have HAGA := Lib.hid (fun w' => HAG.out (L.getD k .nil) (L.getD m .nil) w' (HOKL.out k HKL.out) (HOKL.out m hml))
          have HSAME : Hid (k = m → L.getD k .nil = L.getD m .nil) := Lib.hid (fun h => by rw [h])
          obtain ⟨GR, hGR⟩ : ∃ G, gRow dr L k m (gAll dr L k) = G := ⟨_, rfl⟩
          obtain ⟨GC, hGC⟩ : ∃ G, gC dr L k m = G := ⟨_, rfl⟩
          obtain ⟨AG, hAG⟩ : ∃ G, agB dr (L.getD k .nil) (L.getD m .nil) = G := ⟨_, rfl⟩
          rw [hGC, hAG] at HGC
          rw [hGR, hGC] at HST
          rw [hGR] at HPU hP
          rw [hAG] at HAGA
          obtain ⟨X, hX⟩ : ∃ X, L.getD k .nil = X := ⟨_, rfl⟩
          obtain ⟨Y, hY⟩ : ∃ X, L.getD m .nil = X := ⟨_, rfl⟩
          rw [hX] at HGC HST HAGA HSAME HAT
          rw [hY] at HGC HST HAGA HSAME HAT3
          obtain ⟨p0, pc, p1, px, py, ps, psl, p2, p3, p4⟩ := X
          obtain ⟨q0, qc, q1, qx, qy, qs, qsl, q2, q3, q4⟩ := Y
          simp only at HGC HST
          obtain ⟨e0, e1, e2, e3, e4⟩ := HAT.out
          obtain ⟨f0, f1, f2, f3, f4⟩ := HAT3.out
          clear hTf hat hat3 hb hb3 hGR hGC hAG hX hY

          have hAlc : Below wr.heap.size wr (wr.alloc (.cells #[.int .i64 0, .int .i64 0, .int .i64 0, .int .i64 0, .bool false] 181)) := (Below.refl _ wr).alloc (Nat.le_refl _) _
          have HSp : Hid (w.heap.size ≤ wr.heap.size) := Lib.hid HB.out.size
          have HNp : Hid ((wr.alloc (.cells #[.int .i64 0, .int .i64 0, .int .i64 0, .int .i64 0, .bool false] 181)).heap[wr.heap.size]? = some (.cells #[.int .i64 0, .int .i64 0, .int .i64 0, .int .i64 0, .bool false] 181 (0, 0))) := Lib.hid (heap_alloc_new _ _)
          replace HB := Lib.hid (HB.out.trans (hAlc.mono HB.out.size))
          have HXx_p : Hid (w.heap.size + 1 ≠ wr.heap.size) := Lib.hid (Nat.ne_of_lt (Array.getElem?_eq_some_iff.1 HNx.out).1)
          replace HNx := Lib.hid ((hAlc.block _ (Array.getElem?_eq_some_iff.1 HNx.out).1).trans HNx.out)
          obtain ⟨ap, hap⟩ : ∃ qq, wr.alloc (.cells #[.int .i64 0, .int .i64 0, .int .i64 0, .int .i64 0, .bool false] 181) = qq := ⟨_, rfl⟩
          obtain ⟨bkp, hbp⟩ : ∃ qq, wr.heap.size = qq := ⟨_, rfl⟩
          rw [hap] at HB HNp HNx
          rw [hbp] at HNp HSp HXx_p
          clear hAlc
          have zp0 := cellH HNp.out 0
          have zp1 := cellH HNp.out 1
          have zp2 := cellH HNp.out 2
          have zp3 := cellH HNp.out 3
          have zp4 := cellH HNp.out 4
          simp only [List.getElem?_toArray, List.getElem?_cons_zero, List.getElem?_cons_succ] at zp0 zp1 zp2 zp3 zp4
          have zfp := freeH HNp.out
          replace HNx := Lib.hid ((heap_other ap (bkp) 0 (.int .i64 p0) _ HXx_p.out).trans HNx.out)
          replace HNp := Lib.hid (heap_same HNp.out 0 (.int .i64 p0))
          simp only [List.setIfInBounds_toArray, List.set_cons_zero, List.set_cons_succ] at HNp
          replace HB := Lib.hid (HB.out.setCell (p := ⟨bkp, 0, none⟩) HSp.out (.int .i64 p0))
          obtain ⟨s2, hs2⟩ : ∃ X, ap.setCell ⟨bkp, 0, none⟩ (.int .i64 p0) = X := ⟨_, rfl⟩
          rw [hs2] at HB HNx HNp
          have zp0_2 := cellH HNp.out 0
          have zp1_2 := cellH HNp.out 1
          have zp2_2 := cellH HNp.out 2
          have zp3_2 := cellH HNp.out 3
          have zp4_2 := cellH HNp.out 4
          simp only [List.getElem?_toArray, List.getElem?_cons_zero, List.getElem?_cons_succ] at zp0_2 zp1_2 zp2_2 zp3_2 zp4_2
          have zfp_2 := freeH HNp.out
          replace HNx := Lib.hid ((heap_other s2 (bkp) 1 (.int .i64 p1) _ HXx_p.out).trans HNx.out)
          replace HNp := Lib.hid (heap_same HNp.out 1 (.int .i64 p1))
          simp only [List.setIfInBounds_toArray, List.set_cons_zero, List.set_cons_succ] at HNp
          replace HB := Lib.hid (HB.out.setCell (p := ⟨bkp, 1, none⟩) HSp.out (.int .i64 p1))
          obtain ⟨s3, hs3⟩ : ∃ X, s2.setCell ⟨bkp, 1, none⟩ (.int .i64 p1) = X := ⟨_, rfl⟩
          rw [hs3] at HB HNx HNp
          have zp0_3 := cellH HNp.out 0
          have zp1_3 := cellH HNp.out 1
          have zp2_3 := cellH HNp.out 2
          have zp3_3 := cellH HNp.out 3
          have zp4_3 := cellH HNp.out 4
          simp only [List.getElem?_toArray, List.getElem?_cons_zero, List.getElem?_cons_succ] at zp0_3 zp1_3 zp2_3 zp3_3 zp4_3
          have zfp_3 := freeH HNp.out
          replace HNx := Lib.hid ((heap_other s3 (bkp) 2 (.int .i64 p2) _ HXx_p.out).trans HNx.out)
          replace HNp := Lib.hid (heap_same HNp.out 2 (.int .i64 p2))
          simp only [List.setIfInBounds_toArray, List.set_cons_zero, List.set_cons_succ] at HNp
          replace HB := Lib.hid (HB.out.setCell (p := ⟨bkp, 2, none⟩) HSp.out (.int .i64 p2))
          obtain ⟨s4, hs4⟩ : ∃ X, s3.setCell ⟨bkp, 2, none⟩ (.int .i64 p2) = X := ⟨_, rfl⟩
          rw [hs4] at HB HNx HNp
          have zp0_4 := cellH HNp.out 0
          have zp1_4 := cellH HNp.out 1
          have zp2_4 := cellH HNp.out 2
          have zp3_4 := cellH HNp.out 3
          have zp4_4 := cellH HNp.out 4
          simp only [List.getElem?_toArray, List.getElem?_cons_zero, List.getElem?_cons_succ] at zp0_4 zp1_4 zp2_4 zp3_4 zp4_4
          have zfp_4 := freeH HNp.out
          replace HNx := Lib.hid ((heap_other s4 (bkp) 3 (.int .i64 p3) _ HXx_p.out).trans HNx.out)
          replace HNp := Lib.hid (heap_same HNp.out 3 (.int .i64 p3))
          simp only [List.setIfInBounds_toArray, List.set_cons_zero, List.set_cons_succ] at HNp
          replace HB := Lib.hid (HB.out.setCell (p := ⟨bkp, 3, none⟩) HSp.out (.int .i64 p3))
          obtain ⟨s5, hs5⟩ : ∃ X, s4.setCell ⟨bkp, 3, none⟩ (.int .i64 p3) = X := ⟨_, rfl⟩
          rw [hs5] at HB HNx HNp
          have zp0_5 := cellH HNp.out 0
          have zp1_5 := cellH HNp.out 1
          have zp2_5 := cellH HNp.out 2
          have zp3_5 := cellH HNp.out 3
          have zp4_5 := cellH HNp.out 4
          simp only [List.getElem?_toArray, List.getElem?_cons_zero, List.getElem?_cons_succ] at zp0_5 zp1_5 zp2_5 zp3_5 zp4_5
          have zfp_5 := freeH HNp.out
          replace HNx := Lib.hid ((heap_other s5 (bkp) 4 (.bool p4) _ HXx_p.out).trans HNx.out)
          replace HNp := Lib.hid (heap_same HNp.out 4 (.bool p4))
          simp only [List.setIfInBounds_toArray, List.set_cons_zero, List.set_cons_succ] at HNp
          replace HB := Lib.hid (HB.out.setCell (p := ⟨bkp, 4, none⟩) HSp.out (.bool p4))
          obtain ⟨s6, hs6⟩ : ∃ X, s5.setCell ⟨bkp, 4, none⟩ (.bool p4) = X := ⟨_, rfl⟩
          rw [hs6] at HB HNx HNp
          have hBP : Below wr.heap.size wr s6 := by
            have h0 := Below.refl wr.heap.size wr
            have bp : wr.heap.size ≤ bkp := by rw [← hbp]; exact h0.size
            have h1 := h0.alloc h0.size (.cells #[.int .i64 0, .int .i64 0, .int .i64 0, .int .i64 0, .bool false] 181)
            rw [hap] at h1
            have h2 := h1.setCell (p := ⟨bkp, 0, none⟩) bp (.int .i64 p0)
            rw [hs2] at h2
            have h3 := h2.setCell (p := ⟨bkp, 1, none⟩) bp (.int .i64 p1)
            rw [hs3] at h3
            have h4 := h3.setCell (p := ⟨bkp, 2, none⟩) bp (.int .i64 p2)
            rw [hs4] at h4
            have h5 := h4.setCell (p := ⟨bkp, 3, none⟩) bp (.int .i64 p3)
            rw [hs5] at h5
            have h6 := h5.setCell (p := ⟨bkp, 4, none⟩) bp (.bool p4)
            rw [hs6] at h6
            exact h6
          have h3 := HAT3.out.keep hBP HBL.out
          obtain ⟨f10, f11, f12, f13, f14⟩ := h3
          clear hBP
          have hAlc : Below s6.heap.size s6 (s6.alloc (.cells #[.int .i64 0, .int .i64 0, .int .i64 0, .int .i64 0, .bool false] 181)) := (Below.refl _ s6).alloc (Nat.le_refl _) _
          have HSq : Hid (w.heap.size ≤ s6.heap.size) := Lib.hid HB.out.size
          have HNq : Hid ((s6.alloc (.cells #[.int .i64 0, .int .i64 0, .int .i64 0, .int .i64 0, .bool false] 181)).heap[s6.heap.size]? = some (.cells #[.int .i64 0, .int .i64 0, .int .i64 0, .int .i64 0, .bool false] 181 (0, 0))) := Lib.hid (heap_alloc_new _ _)
          replace HB := Lib.hid (HB.out.trans (hAlc.mono HB.out.size))
          have HXx_q : Hid (w.heap.size + 1 ≠ s6.heap.size) := Lib.hid (Nat.ne_of_lt (Array.getElem?_eq_some_iff.1 HNx.out).1)
          have HXp_q : Hid (bkp ≠ s6.heap.size) := Lib.hid (Nat.ne_of_lt (Array.getElem?_eq_some_iff.1 HNp.out).1)
          replace HNx := Lib.hid ((hAlc.block _ (Array.getElem?_eq_some_iff.1 HNx.out).1).trans HNx.out)
          replace HNp := Lib.hid ((hAlc.block _ (Array.getElem?_eq_some_iff.1 HNp.out).1).trans HNp.out)
          obtain ⟨aq, haq⟩ : ∃ qq, s6.alloc (.cells #[.int .i64 0, .int .i64 0, .int .i64 0, .int .i64 0, .bool false] 181) = qq := ⟨_, rfl⟩
          obtain ⟨bkq, hbq⟩ : ∃ qq, s6.heap.size = qq := ⟨_, rfl⟩
          rw [haq] at HB HNq HNx HNp
          rw [hbq] at HNq HSq HXx_q HXp_q
          clear hAlc
          have zq0_6 := cellH HNq.out 0
          have zq1_6 := cellH HNq.out 1
          have zq2_6 := cellH HNq.out 2
          have zq3_6 := cellH HNq.out 3
          have zq4_6 := cellH HNq.out 4
          simp only [List.getElem?_toArray, List.getElem?_cons_zero, List.getElem?_cons_succ] at zq0_6 zq1_6 zq2_6 zq3_6 zq4_6
          have zfq_6 := freeH HNq.out
          replace HNx := Lib.hid ((heap_other aq (bkq) 0 (.int .i64 q0) _ HXx_q.out).trans HNx.out)
          replace HNp := Lib.hid ((heap_other aq (bkq) 0 (.int .i64 q0) _ HXp_q.out).trans HNp.out)
          replace HNq := Lib.hid (heap_same HNq.out 0 (.int .i64 q0))
          simp only [List.setIfInBounds_toArray, List.set_cons_zero, List.set_cons_succ] at HNq
          replace HB := Lib.hid (HB.out.setCell (p := ⟨bkq, 0, none⟩) HSq.out (.int .i64 q0))
          obtain ⟨s7, hs7⟩ : ∃ X, aq.setCell ⟨bkq, 0, none⟩ (.int .i64 q0) = X := ⟨_, rfl⟩
          rw [hs7] at HB HNx HNp HNq
          have zq0_7 := cellH HNq.out 0
          have zq1_7 := cellH HNq.out 1
          have zq2_7 := cellH HNq.out 2
          have zq3_7 := cellH HNq.out 3
          have zq4_7 := cellH HNq.out 4
          simp only [List.getElem?_toArray, List.getElem?_cons_zero, List.getElem?_cons_succ] at zq0_7 zq1_7 zq2_7 zq3_7 zq4_7
          have zfq_7 := freeH HNq.out
          replace HNx := Lib.hid ((heap_other s7 (bkq) 1 (.int .i64 q1) _ HXx_q.out).trans HNx.out)
          replace HNp := Lib.hid ((heap_other s7 (bkq) 1 (.int .i64 q1) _ HXp_q.out).trans HNp.out)
          replace HNq := Lib.hid (heap_same HNq.out 1 (.int .i64 q1))
          simp only [List.setIfInBounds_toArray, List.set_cons_zero, List.set_cons_succ] at HNq
          replace HB := Lib.hid (HB.out.setCell (p := ⟨bkq, 1, none⟩) HSq.out (.int .i64 q1))
          obtain ⟨s8, hs8⟩ : ∃ X, s7.setCell ⟨bkq, 1, none⟩ (.int .i64 q1) = X := ⟨_, rfl⟩
          rw [hs8] at HB HNx HNp HNq
          have zq0_8 := cellH HNq.out 0
          have zq1_8 := cellH HNq.out 1
          have zq2_8 := cellH HNq.out 2
          have zq3_8 := cellH HNq.out 3
          have zq4_8 := cellH HNq.out 4
          simp only [List.getElem?_toArray, List.getElem?_cons_zero, List.getElem?_cons_succ] at zq0_8 zq1_8 zq2_8 zq3_8 zq4_8
          have zfq_8 := freeH HNq.out
          replace HNx := Lib.hid ((heap_other s8 (bkq) 2 (.int .i64 q2) _ HXx_q.out).trans HNx.out)
          replace HNp := Lib.hid ((heap_other s8 (bkq) 2 (.int .i64 q2) _ HXp_q.out).trans HNp.out)
          replace HNq := Lib.hid (heap_same HNq.out 2 (.int .i64 q2))
          simp only [List.setIfInBounds_toArray, List.set_cons_zero, List.set_cons_succ] at HNq
          replace HB := Lib.hid (HB.out.setCell (p := ⟨bkq, 2, none⟩) HSq.out (.int .i64 q2))
          obtain ⟨s9, hs9⟩ : ∃ X, s8.setCell ⟨bkq, 2, none⟩ (.int .i64 q2) = X := ⟨_, rfl⟩
          rw [hs9] at HB HNx HNp HNq
          have zq0_9 := cellH HNq.out 0
          have zq1_9 := cellH HNq.out 1
          have zq2_9 := cellH HNq.out 2
          have zq3_9 := cellH HNq.out 3
          have zq4_9 := cellH HNq.out 4
          simp only [List.getElem?_toArray, List.getElem?_cons_zero, List.getElem?_cons_succ] at zq0_9 zq1_9 zq2_9 zq3_9 zq4_9
          have zfq_9 := freeH HNq.out
          replace HNx := Lib.hid ((heap_other s9 (bkq) 3 (.int .i64 q3) _ HXx_q.out).trans HNx.out)
          replace HNp := Lib.hid ((heap_other s9 (bkq) 3 (.int .i64 q3) _ HXp_q.out).trans HNp.out)
          replace HNq := Lib.hid (heap_same HNq.out 3 (.int .i64 q3))
          simp only [List.setIfInBounds_toArray, List.set_cons_zero, List.set_cons_succ] at HNq
          replace HB := Lib.hid (HB.out.setCell (p := ⟨bkq, 3, none⟩) HSq.out (.int .i64 q3))
          obtain ⟨s10, hs10⟩ : ∃ X, s9.setCell ⟨bkq, 3, none⟩ (.int .i64 q3) = X := ⟨_, rfl⟩
          rw [hs10] at HB HNx HNp HNq
          have zq0_10 := cellH HNq.out 0
          have zq1_10 := cellH HNq.out 1
          have zq2_10 := cellH HNq.out 2
          have zq3_10 := cellH HNq.out 3
          have zq4_10 := cellH HNq.out 4
          simp only [List.getElem?_toArray, List.getElem?_cons_zero, List.getElem?_cons_succ] at zq0_10 zq1_10 zq2_10 zq3_10 zq4_10
          have zfq_10 := freeH HNq.out
          replace HNx := Lib.hid ((heap_other s10 (bkq) 4 (.bool q4) _ HXx_q.out).trans HNx.out)
          replace HNp := Lib.hid ((heap_other s10 (bkq) 4 (.bool q4) _ HXp_q.out).trans HNp.out)
          replace HNq := Lib.hid (heap_same HNq.out 4 (.bool q4))
          simp only [List.setIfInBounds_toArray, List.set_cons_zero, List.set_cons_succ] at HNq
          replace HB := Lib.hid (HB.out.setCell (p := ⟨bkq, 4, none⟩) HSq.out (.bool q4))
          obtain ⟨s11, hs11⟩ : ∃ X, s10.setCell ⟨bkq, 4, none⟩ (.bool q4) = X := ⟨_, rfl⟩
          rw [hs11] at HB HNx HNp HNq
          have hBQ : Below wr.heap.size wr s11 := by
            have h0 := Below.refl wr.heap.size wr
            have bp : wr.heap.size ≤ bkp := by rw [← hbp]; exact h0.size
            have h1 := h0.alloc h0.size (.cells #[.int .i64 0, .int .i64 0, .int .i64 0, .int .i64 0, .bool false] 181)
            rw [hap] at h1
            have h2 := h1.setCell (p := ⟨bkp, 0, none⟩) bp (.int .i64 p0)
            rw [hs2] at h2
            have h3 := h2.setCell (p := ⟨bkp, 1, none⟩) bp (.int .i64 p1)
            rw [hs3] at h3
            have h4 := h3.setCell (p := ⟨bkp, 2, none⟩) bp (.int .i64 p2)
            rw [hs4] at h4
            have h5 := h4.setCell (p := ⟨bkp, 3, none⟩) bp (.int .i64 p3)
            rw [hs5] at h5
            have h6 := h5.setCell (p := ⟨bkp, 4, none⟩) bp (.bool p4)
            rw [hs6] at h6
            have bq : wr.heap.size ≤ bkq := by rw [← hbq]; exact h6.size
            have h7 := h6.alloc h6.size (.cells #[.int .i64 0, .int .i64 0, .int .i64 0, .int .i64 0, .bool false] 181)
            rw [haq] at h7
            have h8 := h7.setCell (p := ⟨bkq, 0, none⟩) bq (.int .i64 q0)
            rw [hs7] at h8
            have h9 := h8.setCell (p := ⟨bkq, 1, none⟩) bq (.int .i64 q1)
            rw [hs8] at h9
            have h10 := h9.setCell (p := ⟨bkq, 2, none⟩) bq (.int .i64 q2)
            rw [hs9] at h10
            have h11 := h10.setCell (p := ⟨bkq, 3, none⟩) bq (.int .i64 q3)
            rw [hs10] at h11
            have h12 := h11.setCell (p := ⟨bkq, 4, none⟩) bq (.bool q4)
            rw [hs11] at h12
            exact h12
          have hP0 := Lib.hid (hP.out.keep hBQ)
          replace HT := Lib.hid (HT.out.keep hBQ)
          clear hBQ hP
          have hP := hP0
          clear hP0
          have zx0_11 := cellH HNx.out 0
          have zx1_11 := cellH HNx.out 1
          have zx2_11 := cellH HNx.out 2
          have zx3_11 := cellH HNx.out 3
          have zx4_11 := cellH HNx.out 4
          have zx5_11 := cellH HNx.out 5
          have zx6_11 := cellH HNx.out 6
          have zx7_11 := cellH HNx.out 7
          have zp0_11 := cellH HNp.out 0
          have zp1_11 := cellH HNp.out 1
          have zp2_11 := cellH HNp.out 2
          have zp3_11 := cellH HNp.out 3
          have zp4_11 := cellH HNp.out 4
          have zq0_11 := cellH HNq.out 0
          have zq1_11 := cellH HNq.out 1
          have zq2_11 := cellH HNq.out 2
          have zq3_11 := cellH HNq.out 3
          have zq4_11 := cellH HNq.out 4
          simp only [List.getElem?_toArray, List.getElem?_cons_zero, List.getElem?_cons_succ] at zx0_11 zx1_11 zx2_11 zx3_11 zx4_11 zx5_11 zx6_11 zx7_11 zp0_11 zp1_11 zp2_11 zp3_11 zp4_11 zq0_11 zq1_11 zq2_11 zq3_11 zq4_11
          by_cases hkm : k = m
          · have hs := HSAME.out hkm
            have hsi : p0 = q0 ∧ p4 = q4 := by cases hs; exact ⟨rfl, rfl⟩
            have gik : ((k : Int) == (m : Int)) = true := by rw [hkm]; simp
            have gik2 : (k == m) = true := by rw [hkm]; simp
            have HSI := Lib.hid hsi
            have HIK := Lib.hid gik2
            have d1 : decide (p0 < q0) = false := decide_eq_false (by omega)
            have d2 : ¬ p0 < q0 := by omega
            clear hs hsi hkm gik2
            cases p4
            · skip
              have HN2 : Hid (gRow dr L k (m + 1) (gAll dr L k) = GR) := Lib.hid (by rw [HST.out, show GC = false by rw [HGC.out]; rw [HIK.out, d1]; rfl]; rfl)
              go_wp2_with fail
              go_roundw
              case rel => exact ⟨m + 1, q, HML.out, rfl, by go_num, Lib.hid (by rw [HN2.out]; exact hP.out), hQ, HB, HNx, HT⟩
              case measure => have := HML.out; simp [intOf]; omega
            · skip
              have HN2 : Hid (gRow dr L k (m + 1) (gAll dr L k) = putP GR (p0, q0)) := Lib.hid (by rw [HST.out, show GC = true by rw [HGC.out]; rw [HIK.out]; rfl]; rfl)
              have HPU2 := Lib.hid (fun w' h => HPU.out p0 q0 w' h)
              unfold PutOut at HPU2
              go_wp2_with fail
              try clear hap hbp hs2 hs3 hs4 hs5 hs6 haq hbq hs7 hs8 hs9 hs10 hs11
              refine (HPU2.out _ hP.out).mono ?_
              rintro e w12 ⟨nv, rfl, hN1, hN3, hb⟩
              clear zp0 zp1 zp2 zp3 zp4 zfp zp0_2 zp1_2 zp2_2 zp3_2 zp4_2 zfp_2 zp0_3 zp1_3 zp2_3 zp3_3 zp4_3 zfp_3 zp0_4 zp1_4 zp2_4 zp3_4 zp4_4 zfp_4 zp0_5 zp1_5 zp2_5 zp3_5 zp4_5 zfp_5 zq0_6 zq1_6 zq2_6 zq3_6 zq4_6 zfq_6 zq0_7 zq1_7 zq2_7 zq3_7 zq4_7 zfq_7 zq0_8 zq1_8 zq2_8 zq3_8 zq4_8 zfq_8 zq0_9 zq1_9 zq2_9 zq3_9 zq4_9 zfq_9 zq0_10 zq1_10 zq2_10 zq3_10 zq4_10 zfq_10 zx0_11 zx1_11 zx2_11 zx3_11 zx4_11 zx5_11 zx6_11 zx7_11 zp0_11 zp1_11 zp2_11 zp3_11 zp4_11 zq0_11 zq1_11 zq2_11 zq3_11 zq4_11
              have HR1 := Lib.hid hN1
              have HR3 := Lib.hid hN3
              clear hN1 hN3
              replace HB := Lib.hid (HB.out.trans (hb.mono HB.out.size))
              replace HNx := Lib.hid ((hb.block _ (Array.getElem?_eq_some_iff.1 HNx.out).1).trans HNx.out)
              replace HNp := Lib.hid ((hb.block _ (Array.getElem?_eq_some_iff.1 HNp.out).1).trans HNp.out)
              replace HNq := Lib.hid ((hb.block _ (Array.getElem?_eq_some_iff.1 HNq.out).1).trans HNq.out)
              replace HT := Lib.hid (HT.out.keep hb)
              clear hb
              go_wp2_with fail
              go_roundw
              case rel => exact ⟨m + 1, nv, HML.out, rfl, by go_num, Lib.hid (by rw [HN2.out]; exact HR1.out), HR3, HB, HNx, HT⟩
              case measure => have := HML.out; simp [intOf]; omega
          have gik : ((k : Int) == (m : Int)) = false := by rw [beq_eq_false_iff_ne]; omega
          have gik2 : (k == m) = false := by rw [beq_eq_false_iff_ne]; exact hkm
          have HIK := Lib.hid gik2
          clear hkm gik2
          cases d1 : decide (p0 < q0)
          · have d2 : ¬ p0 < q0 := of_decide_eq_false d1
            have HN2 : Hid (gRow dr L k (m + 1) (gAll dr L k) = GR) := Lib.hid (by rw [HST.out, show GC = false by rw [HGC.out]; rw [HIK.out, d1]; rfl]; rfl)
            go_wp2_with fail
            go_roundw
            case rel => exact ⟨m + 1, q, HML.out, rfl, by go_num, Lib.hid (by rw [HN2.out]; exact hP.out), hQ, HB, HNx, HT⟩
            case measure => have := HML.out; simp [intOf]; omega
          have d2 : p0 < q0 := of_decide_eq_true d1
          cases p4
          case true =>
            have HN2 : Hid (gRow dr L k (m + 1) (gAll dr L k) = GR) := Lib.hid (by rw [HST.out, show GC = false by rw [HGC.out]; rw [HIK.out, d1]; simp]; rfl)
            go_wp2_with fail
            go_roundw
            case rel => exact ⟨m + 1, q, HML.out, rfl, by go_num, Lib.hid (by rw [HN2.out]; exact hP.out), hQ, HB, HNx, HT⟩
            case measure => have := HML.out; simp [intOf]; omega
          cases q4
          case true =>
            have HN2 : Hid (gRow dr L k (m + 1) (gAll dr L k) = GR) := Lib.hid (by rw [HST.out, show GC = false by rw [HGC.out]; rw [HIK.out, d1]; simp]; rfl)
            go_wp2_with fail
            go_roundw
            case rel => exact ⟨m + 1, q, HML.out, rfl, by go_num, Lib.hid (by rw [HN2.out]; exact hP.out), hQ, HB, HNx, HT⟩
            case measure => have := HML.out; simp [intOf]; omega
          go_wp2_with fail
          try clear hap hbp hs2 hs3 hs4 hs5 hs6 haq hbq hs7 hs8 hs9 hs10 hs11
          refine (HAGA.out _).mono ?_
          rintro e w13 ⟨rfl, hb⟩
          clear zp0 zp1 zp2 zp3 zp4 zfp zp0_2 zp1_2 zp2_2 zp3_2 zp4_2 zfp_2 zp0_3 zp1_3 zp2_3 zp3_3 zp4_3 zfp_3 zp0_4 zp1_4 zp2_4 zp3_4 zp4_4 zfp_4 zp0_5 zp1_5 zp2_5 zp3_5 zp4_5 zfp_5 zq0_6 zq1_6 zq2_6 zq3_6 zq4_6 zfq_6 zq0_7 zq1_7 zq2_7 zq3_7 zq4_7 zfq_7 zq0_8 zq1_8 zq2_8 zq3_8 zq4_8 zfq_8 zq0_9 zq1_9 zq2_9 zq3_9 zq4_9 zfq_9 zq0_10 zq1_10 zq2_10 zq3_10 zq4_10 zfq_10 zx0_11 zx1_11 zx2_11 zx3_11 zx4_11 zx5_11 zx6_11 zx7_11 zp0_11 zp1_11 zp2_11 zp3_11 zp4_11 zq0_11 zq1_11 zq2_11 zq3_11 zq4_11
          replace HB := Lib.hid (HB.out.trans (hb.mono HB.out.size))
          replace HNx := Lib.hid ((hb.block _ (Array.getElem?_eq_some_iff.1 HNx.out).1).trans HNx.out)
          replace HNp := Lib.hid ((hb.block _ (Array.getElem?_eq_some_iff.1 HNp.out).1).trans HNp.out)
          replace HNq := Lib.hid ((hb.block _ (Array.getElem?_eq_some_iff.1 HNq.out).1).trans HNq.out)
          replace HT := Lib.hid (HT.out.keep hb)
          replace hP := Lib.hid (hP.out.keep hb)
          clear hb
          cases AG
          · skip
            have HN2 : Hid (gRow dr L k (m + 1) (gAll dr L k) = GR) := Lib.hid (by rw [HST.out, show GC = false by rw [HGC.out]; rw [HIK.out, d1]; simp]; rfl)
            go_wp2_with fail
            go_roundw
            case rel => exact ⟨m + 1, q, HML.out, rfl, by go_num, Lib.hid (by rw [HN2.out]; exact hP.out), hQ, HB, HNx, HT⟩
            case measure => have := HML.out; simp [intOf]; omega
          · skip
            have HN2 : Hid (gRow dr L k (m + 1) (gAll dr L k) = putP GR (p0, q0)) := Lib.hid (by rw [HST.out, show GC = true by rw [HGC.out]; rw [HIK.out, d1]; simp]; rfl)
            have HPU2 := Lib.hid (fun w' h => HPU.out p0 q0 w' h)
            unfold PutOut at HPU2
            have zp0 := cellH HNp.out 0
            have zp1 := cellH HNp.out 1
            have zp2 := cellH HNp.out 2
            have zp3 := cellH HNp.out 3
            have zp4 := cellH HNp.out 4
            have zq0 := cellH HNq.out 0
            have zq1 := cellH HNq.out 1
            have zq2 := cellH HNq.out 2
            have zq3 := cellH HNq.out 3
            have zq4 := cellH HNq.out 4
            simp only [List.getElem?_toArray, List.getElem?_cons_zero, List.getElem?_cons_succ] at zp0 zp1 zp2 zp3 zp4 zq0 zq1 zq2 zq3 zq4
            go_wp2_with fail
            refine (HPU2.out _ hP.out).mono ?_
            rintro e w14 ⟨nv, rfl, hN1, hN3, hb⟩
            clear zp0 zp1 zp2 zp3 zp4 zq0 zq1 zq2 zq3 zq4
            have HR1 := Lib.hid hN1
            have HR3 := Lib.hid hN3
            clear hN1 hN3
            replace HB := Lib.hid (HB.out.trans (hb.mono HB.out.size))
            replace HNx := Lib.hid ((hb.block _ (Array.getElem?_eq_some_iff.1 HNx.out).1).trans HNx.out)
            replace HNp := Lib.hid ((hb.block _ (Array.getElem?_eq_some_iff.1 HNp.out).1).trans HNp.out)
            replace HNq := Lib.hid ((hb.block _ (Array.getElem?_eq_some_iff.1 HNq.out).1).trans HNq.out)
            replace HT := Lib.hid (HT.out.keep hb)
            clear hb
            go_wp2_with fail
            go_roundw
            case rel => exact ⟨m + 1, nv, HML.out, rfl, by go_num, Lib.hid (by rw [HN2.out]; exact HR1.out), HR3, HB, HNx, HT⟩
            case measure => have := HML.out; simp [intOf]; omega
        · obtain rfl : m = L.length := by omega
          go_wp2_with fail
          go_roundw
          case rel => exact ⟨k + 1, q, HKL.out, rfl, by go_num, hP, hQ, HB, HNx, HT⟩
          case measure => have := HKL.out; simp [intOf]; omega
    · obtain rfl : k = L.length := by omega
      go_wp2_with fail
      go_ret
      exact ⟨_, rfl, hP.out, HB.out⟩
end Go.Proofs.YtebdboacmeafaaaGreat
