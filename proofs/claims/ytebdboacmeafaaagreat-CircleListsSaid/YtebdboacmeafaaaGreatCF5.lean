/- Package firetowerref05: limits, use, Zero. -/
import Derived.Test.YtebdboacmeafaaaGreatCF4
import Derived.Test.YtebdboacmeafaaaGreatCCB
set_option linter.unusedVariables false
set_option linter.unusedSimpArgs false
namespace Go.Proofs.YtebdboacmeafaaaGreat
open Go Go.RowKit

theorem sp_step {dr : Int} {l : List Th} {t : Int} {k : Nat} (hk : k < l.length) : spLo dr (l.take (k + 1)) t = max (spLo dr (l.take k) t) (lowI dr (l.getD k .nil) t) ∧ spHi dr (l.take (k + 1)) t = min (spHi dr (l.take k) t) (highI dr (l.getD k .nil) t) := by
  unfold spLo spHi maxL minL
  rw [List.take_succ_eq_append_getElem hk, List.map_append, List.map_append, List.foldl_append, List.foldl_append, List.getD_eq_getElem?_getD, List.getElem?_eq_getElem hk]
  exact ⟨rfl, rfl⟩
theorem sp_bds {dr t : Int} (hd : 0 ≤ dr ∧ dr ≤ 60) (ht : 0 ≤ t ∧ t ≤ 1048576) : ∀ (l : List Th), (∀ h ∈ l, h.ok) → (-300 ≤ spLo dr l t ∧ spLo dr l t ≤ 300) ∧ -300 ≤ spHi dr l t ∧ spHi dr l t ≤ 300 := by
  intro l
  unfold spLo spHi maxL minL
  have key : ∀ (l : List Th) (a b : Int), (-300 ≤ a ∧ a ≤ 300) → (-300 ≤ b ∧ b ≤ 300) → (∀ h ∈ l, h.ok) → (-300 ≤ (l.map fun h => lowI dr h t).foldl max a ∧ (l.map fun h => lowI dr h t).foldl max a ≤ 300) ∧ -300 ≤ (l.map fun h => highI dr h t).foldl min b ∧ (l.map fun h => highI dr h t).foldl min b ≤ 300 := by
    intro l
    induction l with
    | nil => intro a b ha hb _; exact ⟨ha, hb⟩
    | cons x l ih =>
      intro a b ha hb hl
      have hx := hl x (List.mem_cons_self ..)
      have hf := (fr_mul hd hx.1 ht).2
      simp only [List.map_cons, List.foldl_cons]
      refine ih _ _ ?_ ?_ (fun h hh => hl h (List.mem_cons_of_mem _ hh))
      · unfold lowI; have := hx.2.1; omega
      · unfold highI; have := hx.2.2; omega
  exact fun h => key l _ _ (by omega) (by omega) h
set_option maxRecDepth 100000 in
set_option maxHeartbeats 8000000 in
theorem limits_any (z : Ci) (v : Value) (l : List Th) (t : Int) (w : World) (hv : TgRow w v l) (hl : l.length ≤ 100) (hd : 0 ≤ z.dr ∧ z.dr ≤ 60) (ht : 0 ≤ t ∧ t ≤ 1048576) (hok : ∀ h ∈ l, h.ok) :
    Calls Tryz.prog 59 #[z.val, v, .int .i64 t] w fun e w' => e = .returned (.agg #[.int .i64 (spLo z.dr l t), .int .i64 (spHi z.dr l t)]) ∧ Below w.heap.size w w' := by
  have HTR := Lib.hid hv
  obtain ⟨a, cap, rfl, _⟩ := hv.form
  have HOKJ : Hid (∀ j, j < l.length → (l.getD j .nil).ok) := Lib.hid (fun j hj => hok _ (by rw [List.getD_eq_getElem?_getD, List.getElem?_eq_getElem hj]; exact List.getElem_mem _))
  have HTK : Hid (∀ k, (-300 ≤ spLo z.dr (l.take k) t ∧ spLo z.dr (l.take k) t ≤ 300) ∧ -300 ≤ spHi z.dr (l.take k) t ∧ spHi z.dr (l.take k) t ≤ 300) := Lib.hid (fun k => sp_bds hd ht _ (fun h hh => hok h (List.mem_of_mem_take hh)))
  have HSTEP := Lib.hid (fun k hk => sp_step (dr := z.dr) (l := l) (t := t) (k := k) hk)
  have HFA := Lib.hid (fun s w' hs => pFar_any z s t w' hd hs ht)
  have HFB := Lib.hid (fun s hs => (fr_mul (s := s) hd hs ht).2)
  have HLL := Lib.hid hl
  obtain ⟨zi, zx, zy, zf, zt, zl, zh, dr⟩ := z
  simp only at HFA HFB HSTEP HTK ⊢
  have HF0 : Hid (spLo dr (l.take 0) t = -300 ∧ spHi dr (l.take 0) t = 300) := Lib.hid ⟨rfl, rfl⟩
  have HFE : Hid (spLo dr (l.take l.length) t = spLo dr l t ∧ spHi dr (l.take l.length) t = spHi dr l t) := Lib.hid (by rw [List.take_length]; exact ⟨rfl, rfl⟩)
  obtain ⟨SL, hSL⟩ : ∃ x, spLo dr l t = x := ⟨_, rfl⟩
  obtain ⟨SH, hSH⟩ : ∃ x, spHi dr l t = x := ⟨_, rfl⟩
  rw [hSL, hSH] at HFE ⊢
  clear hv hok hd ht hl hSL hSH
  obtain ⟨x0, x1, xlt, xb⟩ := two_cells w #[.int .i64 zi, .int .i64 zx, .int .i64 zy, .int .i64 zf, .int .i64 zt, .int .i64 zl, .int .i64 zh, .int .i64 dr] #[.int .i64 0, .int .i64 0] 93 36 (Below.refl _ _)
  have HNx : Hid (((w.alloc (.cells #[.int .i64 zi, .int .i64 zx, .int .i64 zy, .int .i64 zf, .int .i64 zt, .int .i64 zl, .int .i64 zh, .int .i64 dr] 93)).alloc (.cells #[.int .i64 0, .int .i64 0] 36)).heap[w.heap.size]? = some (.cells #[.int .i64 zi, .int .i64 zx, .int .i64 zy, .int .i64 zf, .int .i64 zt, .int .i64 zl, .int .i64 zh, .int .i64 dr] 93 (0, 0))) := Lib.hid x0
  have HNr : Hid (((w.alloc (.cells #[.int .i64 zi, .int .i64 zx, .int .i64 zy, .int .i64 zf, .int .i64 zt, .int .i64 zl, .int .i64 zh, .int .i64 dr] 93)).alloc (.cells #[.int .i64 0, .int .i64 0] 36)).heap[w.heap.size + 1]? = some (.cells #[.int .i64 0, .int .i64 0] 36 (0, 0))) := Lib.hid x1
  have HB : Hid (Below w.heap.size w ((w.alloc (.cells #[.int .i64 zi, .int .i64 zx, .int .i64 zy, .int .i64 zf, .int .i64 zt, .int .i64 zl, .int .i64 zh, .int .i64 dr] 93)).alloc (.cells #[.int .i64 0, .int .i64 0] 36))) := Lib.hid xb
  obtain ⟨Z, hZ⟩ : ∃ Z, ((w.alloc (.cells #[.int .i64 zi, .int .i64 zx, .int .i64 zy, .int .i64 zf, .int .i64 zt, .int .i64 zl, .int .i64 zh, .int .i64 dr] 93)).alloc (.cells #[.int .i64 0, .int .i64 0] 36)) = Z := ⟨_, rfl⟩
  rw [hZ] at HB HNx HNr
  have HZ := Lib.hid hZ
  clear hZ xlt xb x0 x1
  go_enter Tryz.func59, Tryz.ntmps59
  have HZ2 := HZ.out
  have hAlc : Below Z.heap.size Z (Z.alloc (.cells #[.int .i64 (-300), .int .i64 300] 36)) := (Below.refl _ Z).alloc (Nat.le_refl _) _
  have HSsq : Hid (w.heap.size ≤ Z.heap.size) := Lib.hid HB.out.size
  have HNsq : Hid ((Z.alloc (.cells #[.int .i64 (-300), .int .i64 300] 36)).heap[Z.heap.size]? = some (.cells #[.int .i64 (-300), .int .i64 300] 36 (0, 0))) := Lib.hid (heap_alloc_new _ _)
  replace HB := Lib.hid (HB.out.trans (hAlc.mono HB.out.size))
  have HXx_sq : Hid (w.heap.size ≠ Z.heap.size) := Lib.hid (Nat.ne_of_lt (Array.getElem?_eq_some_iff.1 HNx.out).1)
  have HXr_sq : Hid (w.heap.size + 1 ≠ Z.heap.size) := Lib.hid (Nat.ne_of_lt (Array.getElem?_eq_some_iff.1 HNr.out).1)
  replace HNx := Lib.hid ((hAlc.block _ (Array.getElem?_eq_some_iff.1 HNx.out).1).trans HNx.out)
  replace HNr := Lib.hid ((hAlc.block _ (Array.getElem?_eq_some_iff.1 HNr.out).1).trans HNr.out)
  obtain ⟨asq, hasq⟩ : ∃ qq, Z.alloc (.cells #[.int .i64 (-300), .int .i64 300] 36) = qq := ⟨_, rfl⟩
  obtain ⟨bksq, hbsq⟩ : ∃ qq, Z.heap.size = qq := ⟨_, rfl⟩
  rw [hasq] at HB HNsq HNx HNr
  rw [hbsq] at HNsq HSsq HXx_sq HXr_sq
  clear hAlc
  go_wp2_with fail
  try clear hasq hbsq
  clear HZ2
  go_loopw [8] (fun i wr => ∃ (k : Nat) (lo hi : Int), k ≤ l.length ∧ i = .int .i64 k ∧ Hid (lo = spLo dr (l.take k) t ∧ hi = spHi dr (l.take k) t) ∧ Hid (Below w.heap.size w wr) ∧ Hid (wr.heap[w.heap.size]? = some (.cells #[.int .i64 zi, .int .i64 zx, .int .i64 zy, .int .i64 zf, .int .i64 zt, .int .i64 zl, .int .i64 zh, .int .i64 dr] 93 (0, 0))) ∧ Hid (wr.heap[w.heap.size + 1]? = some (.cells #[.int .i64 0, .int .i64 0] 36 (0, 0))) ∧ Hid (wr.heap[bksq]? = some (.cells #[.int .i64 lo, .int .i64 hi] 36 (0, 0)))) (fun i _ => l.length - (intOf i).toNat)
  case atStart => exact ⟨0, -300, 300, Nat.zero_le _, rfl, Lib.hid ⟨HF0.out.1.symm, HF0.out.2.symm⟩, HB, HNx, HNr, HNsq⟩
  case round =>
    clear HB HNx HNr HNsq
    obtain ⟨k, lo, hi, hk, rfl, hV, HB, HNx, HNr, HNsq⟩ := hrel
    have hll := HLL.out
    by_cases hkl : k < l.length
    · obtain ⟨ta2, tc2, htq, hTf⟩ := HTR.out.form
      cases htq
      obtain ⟨b, off, rfl, hb, hat⟩ := hTf k hkl
      have HAT := Lib.hid hat
      have HBL := Lib.hid hb
      have hki : (k : Int) < l.length := by omega
      have hk0 : (0 : Int) ≤ k := by omega
      have HKL := Lib.hid hkl
      have hko := HOKJ.out k hkl
      have HFA2 := Lib.hid (fun w' => HFA.out (l.getD k .nil).t w' hko.1)
      have hfb := HFB.out (l.getD k .nil).t hko.1
      have HST := Lib.hid (HSTEP.out k hkl)
      have htk := HTK.out k
      have hv1 := hV.out
      have hlo := hko.2.1
      have hhi := hko.2.2
      have HLH : Hid (lowI dr (l.getD k .nil) t = (l.getD k .nil).lo - frI dr (l.getD k .nil).t t ∧ highI dr (l.getD k .nil) t = (l.getD k .nil).hi + frI dr (l.getD k .nil).t t) := Lib.hid ⟨rfl, rfl⟩
      obtain ⟨D, hD⟩ : ∃ D, frI dr (l.getD k .nil).t t = D := ⟨_, rfl⟩
      rw [hD] at HFA2 hfb HLH
      obtain ⟨X, hX⟩ : ∃ X, l.getD k .nil = X := ⟨_, rfl⟩
      rw [hX] at HFA2 HLH HST HAT hlo hhi
      obtain ⟨p0, pc, p1, px, py, ps, psl, p2, p3, p4⟩ := X
      simp only at HLH hlo hhi
      have e1 : IntKind.i64.wrap (p2 - D) = p2 - D := IntWalk.i64_in _ (by omega)
      have e2 : IntKind.i64.wrap (p3 + D) = p3 + D := IntWalk.i64_in _ (by omega)
      have HNV : Hid (max lo (p2 - D) = spLo dr (l.take (k + 1)) t ∧ min hi (p3 + D) = spHi dr (l.take (k + 1)) t) := Lib.hid (by rw [HST.out.1, HST.out.2, HLH.out.1, HLH.out.2, hV.out.1, hV.out.2]; exact ⟨rfl, rfl⟩)
      clear hTf hb hat hko hfb htk hv1 hlo hhi hD hX
      have HRD : Hid (∀ W', Below wr.heap.size wr W' → W'.cell? ⟨w.heap.size, 0, none⟩ = some (.int .i64 zi) ∧ W'.cell? ⟨w.heap.size, 1, none⟩ = some (.int .i64 zx) ∧ W'.cell? ⟨w.heap.size, 2, none⟩ = some (.int .i64 zy) ∧ W'.cell? ⟨w.heap.size, 3, none⟩ = some (.int .i64 zf) ∧ W'.cell? ⟨w.heap.size, 4, none⟩ = some (.int .i64 zt) ∧ W'.cell? ⟨w.heap.size, 5, none⟩ = some (.int .i64 zl) ∧ W'.cell? ⟨w.heap.size, 6, none⟩ = some (.int .i64 zh) ∧ W'.cell? ⟨w.heap.size, 7, none⟩ = some (.int .i64 dr) ∧ W'.cell? ⟨w.heap.size + 1, 0, none⟩ = some (.int .i64 0) ∧ W'.cell? ⟨w.heap.size + 1, 1, none⟩ = some (.int .i64 0) ∧ W'.cell? ⟨bksq, 0, none⟩ = some (.int .i64 lo) ∧ W'.cell? ⟨bksq, 1, none⟩ = some (.int .i64 hi) ∧ TgAt W' b off k ⟨p0, pc, p1, px, py, ps, psl, p2, p3, p4⟩) := Lib.hid (fun W' h => ⟨cellH ((h.block _ (Array.getElem?_eq_some_iff.1 HNx.out).1).trans HNx.out) 0, cellH ((h.block _ (Array.getElem?_eq_some_iff.1 HNx.out).1).trans HNx.out) 1, cellH ((h.block _ (Array.getElem?_eq_some_iff.1 HNx.out).1).trans HNx.out) 2, cellH ((h.block _ (Array.getElem?_eq_some_iff.1 HNx.out).1).trans HNx.out) 3, cellH ((h.block _ (Array.getElem?_eq_some_iff.1 HNx.out).1).trans HNx.out) 4, cellH ((h.block _ (Array.getElem?_eq_some_iff.1 HNx.out).1).trans HNx.out) 5, cellH ((h.block _ (Array.getElem?_eq_some_iff.1 HNx.out).1).trans HNx.out) 6, cellH ((h.block _ (Array.getElem?_eq_some_iff.1 HNx.out).1).trans HNx.out) 7, cellH ((h.block _ (Array.getElem?_eq_some_iff.1 HNr.out).1).trans HNr.out) 0, cellH ((h.block _ (Array.getElem?_eq_some_iff.1 HNr.out).1).trans HNr.out) 1, cellH ((h.block _ (Array.getElem?_eq_some_iff.1 HNsq.out).1).trans HNsq.out) 0, cellH ((h.block _ (Array.getElem?_eq_some_iff.1 HNsq.out).1).trans HNsq.out) 1, HAT.out.keep (HB.out.trans (h.mono HB.out.size)) HBL.out⟩)
      have C1 := Lib.hid (upC (Z := wr) HFA2.out)
      have zx0 := cellH HNx.out 0
      have zx1 := cellH HNx.out 1
      have zx2 := cellH HNx.out 2
      have zx3 := cellH HNx.out 3
      have zx4 := cellH HNx.out 4
      have zx5 := cellH HNx.out 5
      have zx6 := cellH HNx.out 6
      have zx7 := cellH HNx.out 7
      simp only [List.getElem?_toArray, List.getElem?_cons_zero, List.getElem?_cons_succ] at zx0 zx1 zx2 zx3 zx4 zx5 zx6 zx7
      go_wp2_with fail
      clear zx0 zx1 zx2 zx3 zx4 zx5 zx6 zx7
      refine wp_region_turn 8 (fun _ w' => Below wr.heap.size wr w') (by kernel_rfl) (by kernel_rfl) ((Below.refl _ wr).drew) ?_
      simp only [List.take_succ_cons, List.take_zero, List.drop_succ_cons, List.drop_zero]
      iterate 8
        (first
          | (apply turnC_step (by rfl); (intro w' hw'; obtain ⟨zx0, zx1, zx2, zx3, zx4, zx5, zx6, zx7, zr0, zr1, zsq0, zsq1, ⟨f0, f1, f2, f3, f4⟩⟩ := HRD.out w' hw'; go_simp; first | with_reducible exact ⟨hw', rfl⟩ | with_reducible exact rfl))
          | (apply turnC_step (by rfl); (intro w' hw'; go_simp; first | with_reducible exact C1.out w' hw')))
        simp only [Act.put, List.setIfInBounds_toArray, List.set_cons_succ, List.set_cons_zero]
      intro listed w1 _ hb
      replace HB := Lib.hid (HB.out.trans (hb.mono HB.out.size))
      replace HNx := Lib.hid ((hb.block _ (Array.getElem?_eq_some_iff.1 HNx.out).1).trans HNx.out)
      replace HNr := Lib.hid ((hb.block _ (Array.getElem?_eq_some_iff.1 HNr.out).1).trans HNr.out)
      replace HNsq := Lib.hid ((hb.block _ (Array.getElem?_eq_some_iff.1 HNsq.out).1).trans HNsq.out)
      clear hb
      clear HRD
      have HRD : Hid (∀ W', Below w1.heap.size w1 W' → W'.cell? ⟨w.heap.size, 0, none⟩ = some (.int .i64 zi) ∧ W'.cell? ⟨w.heap.size, 1, none⟩ = some (.int .i64 zx) ∧ W'.cell? ⟨w.heap.size, 2, none⟩ = some (.int .i64 zy) ∧ W'.cell? ⟨w.heap.size, 3, none⟩ = some (.int .i64 zf) ∧ W'.cell? ⟨w.heap.size, 4, none⟩ = some (.int .i64 zt) ∧ W'.cell? ⟨w.heap.size, 5, none⟩ = some (.int .i64 zl) ∧ W'.cell? ⟨w.heap.size, 6, none⟩ = some (.int .i64 zh) ∧ W'.cell? ⟨w.heap.size, 7, none⟩ = some (.int .i64 dr) ∧ W'.cell? ⟨w.heap.size + 1, 0, none⟩ = some (.int .i64 0) ∧ W'.cell? ⟨w.heap.size + 1, 1, none⟩ = some (.int .i64 0) ∧ W'.cell? ⟨bksq, 0, none⟩ = some (.int .i64 lo) ∧ W'.cell? ⟨bksq, 1, none⟩ = some (.int .i64 hi) ∧ TgAt W' b off k ⟨p0, pc, p1, px, py, ps, psl, p2, p3, p4⟩) := Lib.hid (fun W' h => ⟨cellH ((h.block _ (Array.getElem?_eq_some_iff.1 HNx.out).1).trans HNx.out) 0, cellH ((h.block _ (Array.getElem?_eq_some_iff.1 HNx.out).1).trans HNx.out) 1, cellH ((h.block _ (Array.getElem?_eq_some_iff.1 HNx.out).1).trans HNx.out) 2, cellH ((h.block _ (Array.getElem?_eq_some_iff.1 HNx.out).1).trans HNx.out) 3, cellH ((h.block _ (Array.getElem?_eq_some_iff.1 HNx.out).1).trans HNx.out) 4, cellH ((h.block _ (Array.getElem?_eq_some_iff.1 HNx.out).1).trans HNx.out) 5, cellH ((h.block _ (Array.getElem?_eq_some_iff.1 HNx.out).1).trans HNx.out) 6, cellH ((h.block _ (Array.getElem?_eq_some_iff.1 HNx.out).1).trans HNx.out) 7, cellH ((h.block _ (Array.getElem?_eq_some_iff.1 HNr.out).1).trans HNr.out) 0, cellH ((h.block _ (Array.getElem?_eq_some_iff.1 HNr.out).1).trans HNr.out) 1, cellH ((h.block _ (Array.getElem?_eq_some_iff.1 HNsq.out).1).trans HNsq.out) 0, cellH ((h.block _ (Array.getElem?_eq_some_iff.1 HNsq.out).1).trans HNsq.out) 1, HAT.out.keep (HB.out.trans (h.mono HB.out.size)) HBL.out⟩)
      go_wp2_with fail
      refine wp_region_turn 13 (fun _ w' => Below w1.heap.size w1 w') (by kernel_rfl) (by kernel_rfl) ((Below.refl _ w1).drew) ?_
      simp only [List.take_succ_cons, List.take_zero, List.drop_succ_cons, List.drop_zero]
      iterate 13
        (first
          | (apply turnC_step (by rfl); (intro w' hw'; obtain ⟨zx0, zx1, zx2, zx3, zx4, zx5, zx6, zx7, zr0, zr1, zsq0, zsq1, ⟨f0, f1, f2, f3, f4⟩⟩ := HRD.out w' hw'; go_simp; first | with_reducible exact ⟨hw', rfl⟩ | with_reducible exact ⟨hw', congrArg (Value.int .i64) e1⟩ | with_reducible exact rfl)))
        simp only [Act.put, List.setIfInBounds_toArray, List.set_cons_succ, List.set_cons_zero]
      intro listed w2 _ hb
      replace HB := Lib.hid (HB.out.trans (hb.mono HB.out.size))
      replace HNx := Lib.hid ((hb.block _ (Array.getElem?_eq_some_iff.1 HNx.out).1).trans HNx.out)
      replace HNr := Lib.hid ((hb.block _ (Array.getElem?_eq_some_iff.1 HNr.out).1).trans HNr.out)
      replace HNsq := Lib.hid ((hb.block _ (Array.getElem?_eq_some_iff.1 HNsq.out).1).trans HNsq.out)
      clear hb
      clear HRD
      have zsq0 := cellH HNsq.out 0
      have zsq1 := cellH HNsq.out 1
      simp only [List.getElem?_toArray, List.getElem?_cons_zero, List.getElem?_cons_succ] at zsq0 zsq1
      have zfsq := freeH HNsq.out
      replace HNx := Lib.hid ((heap_other w2 (bksq) 0 (.int .i64 (max lo (p2 - D))) _ HXx_sq.out).trans HNx.out)
      replace HNr := Lib.hid ((heap_other w2 (bksq) 0 (.int .i64 (max lo (p2 - D))) _ HXr_sq.out).trans HNr.out)
      replace HNsq := Lib.hid (heap_same HNsq.out 0 (.int .i64 (max lo (p2 - D))))
      simp only [List.setIfInBounds_toArray, List.set_cons_zero, List.set_cons_succ] at HNsq
      replace HB := Lib.hid (HB.out.setCell (p := ⟨bksq, 0, none⟩) HSsq.out (.int .i64 (max lo (p2 - D))))
      obtain ⟨s3, hs3⟩ : ∃ X, w2.setCell ⟨bksq, 0, none⟩ (.int .i64 (max lo (p2 - D))) = X := ⟨_, rfl⟩
      rw [hs3] at HB HNx HNr HNsq
      have HRD : Hid (∀ W', Below s3.heap.size s3 W' → W'.cell? ⟨w.heap.size, 0, none⟩ = some (.int .i64 zi) ∧ W'.cell? ⟨w.heap.size, 1, none⟩ = some (.int .i64 zx) ∧ W'.cell? ⟨w.heap.size, 2, none⟩ = some (.int .i64 zy) ∧ W'.cell? ⟨w.heap.size, 3, none⟩ = some (.int .i64 zf) ∧ W'.cell? ⟨w.heap.size, 4, none⟩ = some (.int .i64 zt) ∧ W'.cell? ⟨w.heap.size, 5, none⟩ = some (.int .i64 zl) ∧ W'.cell? ⟨w.heap.size, 6, none⟩ = some (.int .i64 zh) ∧ W'.cell? ⟨w.heap.size, 7, none⟩ = some (.int .i64 dr) ∧ W'.cell? ⟨w.heap.size + 1, 0, none⟩ = some (.int .i64 0) ∧ W'.cell? ⟨w.heap.size + 1, 1, none⟩ = some (.int .i64 0) ∧ W'.cell? ⟨bksq, 0, none⟩ = some (.int .i64 (max lo (p2 - D))) ∧ W'.cell? ⟨bksq, 1, none⟩ = some (.int .i64 hi) ∧ TgAt W' b off k ⟨p0, pc, p1, px, py, ps, psl, p2, p3, p4⟩) := Lib.hid (fun W' h => ⟨cellH ((h.block _ (Array.getElem?_eq_some_iff.1 HNx.out).1).trans HNx.out) 0, cellH ((h.block _ (Array.getElem?_eq_some_iff.1 HNx.out).1).trans HNx.out) 1, cellH ((h.block _ (Array.getElem?_eq_some_iff.1 HNx.out).1).trans HNx.out) 2, cellH ((h.block _ (Array.getElem?_eq_some_iff.1 HNx.out).1).trans HNx.out) 3, cellH ((h.block _ (Array.getElem?_eq_some_iff.1 HNx.out).1).trans HNx.out) 4, cellH ((h.block _ (Array.getElem?_eq_some_iff.1 HNx.out).1).trans HNx.out) 5, cellH ((h.block _ (Array.getElem?_eq_some_iff.1 HNx.out).1).trans HNx.out) 6, cellH ((h.block _ (Array.getElem?_eq_some_iff.1 HNx.out).1).trans HNx.out) 7, cellH ((h.block _ (Array.getElem?_eq_some_iff.1 HNr.out).1).trans HNr.out) 0, cellH ((h.block _ (Array.getElem?_eq_some_iff.1 HNr.out).1).trans HNr.out) 1, cellH ((h.block _ (Array.getElem?_eq_some_iff.1 HNsq.out).1).trans HNsq.out) 0, cellH ((h.block _ (Array.getElem?_eq_some_iff.1 HNsq.out).1).trans HNsq.out) 1, HAT.out.keep (HB.out.trans (h.mono HB.out.size)) HBL.out⟩)
      go_wp2_with fail
      try clear hs3
      clear zsq0 zsq1 zfsq
      refine wp_region_turn 13 (fun _ w' => Below s3.heap.size s3 w') (by kernel_rfl) (by kernel_rfl) ((Below.refl _ s3).drew) ?_
      simp only [List.take_succ_cons, List.take_zero, List.drop_succ_cons, List.drop_zero]
      iterate 13
        (first
          | (apply turnC_step (by rfl); (intro w' hw'; obtain ⟨zx0, zx1, zx2, zx3, zx4, zx5, zx6, zx7, zr0, zr1, zsq0, zsq1, ⟨f0, f1, f2, f3, f4⟩⟩ := HRD.out w' hw'; go_simp; first | with_reducible exact ⟨hw', rfl⟩ | with_reducible exact ⟨hw', congrArg (Value.int .i64) e2⟩ | with_reducible exact rfl)))
        simp only [Act.put, List.setIfInBounds_toArray, List.set_cons_succ, List.set_cons_zero]
      intro listed w4 _ hb
      replace HB := Lib.hid (HB.out.trans (hb.mono HB.out.size))
      replace HNx := Lib.hid ((hb.block _ (Array.getElem?_eq_some_iff.1 HNx.out).1).trans HNx.out)
      replace HNr := Lib.hid ((hb.block _ (Array.getElem?_eq_some_iff.1 HNr.out).1).trans HNr.out)
      replace HNsq := Lib.hid ((hb.block _ (Array.getElem?_eq_some_iff.1 HNsq.out).1).trans HNsq.out)
      clear hb
      clear HRD
      have zsq0 := cellH HNsq.out 0
      have zsq1 := cellH HNsq.out 1
      simp only [List.getElem?_toArray, List.getElem?_cons_zero, List.getElem?_cons_succ] at zsq0 zsq1
      have zfsq := freeH HNsq.out
      replace HNx := Lib.hid ((heap_other w4 (bksq) 1 (.int .i64 (min hi (p3 + D))) _ HXx_sq.out).trans HNx.out)
      replace HNr := Lib.hid ((heap_other w4 (bksq) 1 (.int .i64 (min hi (p3 + D))) _ HXr_sq.out).trans HNr.out)
      replace HNsq := Lib.hid (heap_same HNsq.out 1 (.int .i64 (min hi (p3 + D))))
      simp only [List.setIfInBounds_toArray, List.set_cons_zero, List.set_cons_succ] at HNsq
      replace HB := Lib.hid (HB.out.setCell (p := ⟨bksq, 1, none⟩) HSsq.out (.int .i64 (min hi (p3 + D))))
      obtain ⟨s5, hs5⟩ : ∃ X, w4.setCell ⟨bksq, 1, none⟩ (.int .i64 (min hi (p3 + D))) = X := ⟨_, rfl⟩
      rw [hs5] at HB HNx HNr HNsq
      go_wp2_with fail
      try clear hs5
      go_roundw
      case rel => exact ⟨k + 1, _, _, HKL.out, by go_num, HNV, HB, HNx, HNr, HNsq⟩
      case measure => have := HKL.out; simp [intOf]; omega
    · obtain rfl : k = l.length := by omega
      have HNV : Hid (lo = SL ∧ hi = SH) := Lib.hid ⟨hV.out.1.trans HFE.out.1, hV.out.2.trans HFE.out.2⟩
      have zr0 := cellH HNr.out 0
      have zr1 := cellH HNr.out 1
      have zsq0 := cellH HNsq.out 0
      have zsq1 := cellH HNsq.out 1
      simp only [List.getElem?_toArray, List.getElem?_cons_zero, List.getElem?_cons_succ] at zr0 zr1 zsq0 zsq1
      have zfr := freeH HNr.out
      go_wp2_with fail
      obtain ⟨z1, z2⟩ := set2 HNr.out HB.out (by omega) (.int .i64 lo) (.int .i64 hi)
      refine bodyPost_ret (results_cell_row Tryz.results59 _ _ (w.heap.size + 1) 36 _ (0, 0) _ rfl z1 Tryz.underlying36 rfl info_sp2) rfl ?_
      exact ⟨by rw [HNV.out.1, HNV.out.2], z2⟩
end Go.Proofs.YtebdboacmeafaaaGreat
