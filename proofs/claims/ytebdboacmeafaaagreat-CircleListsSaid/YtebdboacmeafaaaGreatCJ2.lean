/- Package circle: ends, Lowest, Highest. -/
import Derived.Test.YtebdboacmeafaaaGreatCJ1
import Derived.Test.YtebdboacmeafaaaGreatCG5
set_option linter.unusedVariables false
set_option linter.unusedSimpArgs false
namespace Go.Proofs.YtebdboacmeafaaaGreat
open Go Go.RowKit

def EnHit (F : Option Ci) (ks : List Ck) (id lo hi : Int) (G : Pi2 → Int) (B : Nat) (e : Ending) (w' : World) : Prop := ∃ z v, F = some z ∧ e = .returned (.tuple #[.agg #[.int .i64 id, .int .i64 lo, v], .int .i64 0]) ∧ OwI w' B v ((spN z.dr (dlL z ks) lo (hi - lo + 1).toNat).map G)
theorem EnHit.mk {F : Option Ci} {ks : List Ck} {id lo hi : Int} {G : Pi2 → Int} {B : Nat} {e : Ending} {w' : World} {z : Ci} {v : Value} (h1 : F = some z) (h2 : e = .returned (.tuple #[.agg #[.int .i64 id, .int .i64 lo, v], .int .i64 0])) (h3 : OwI w' B v ((spN z.dr (dlL z ks) lo (hi - lo + 1).toNat).map G)) : EnHit F ks id lo hi G B e w' := ⟨z, v, h1, h2, h3⟩
/-- What ends answers. -/
def EnOut (cs : List Ci) (ks : List Ck) (id lo hi : Int) (G : Pi2 → Int) (w : World) (e : Ending) (w' : World) : Prop :=
  Below w.heap.size w w' ∧ (snE cs ks id lo hi ≠ 0 → e = .returned (.tuple #[.agg #[.int .i64 0, .int .i64 0, .slice none 0 0], .int .i64 (snE cs ks id lo hi)])) ∧
    (snE cs ks id lo hi = 0 → EnHit (ciF cs id) ks id lo hi G w.heap.size e w')
theorem P2Row.at {w : World} {a : Option Addr} {n c : Nat} {l : List Pi2} (h : P2Row w (.slice a n c) l) (k : Nat) (hk : k < l.length) : ∃ b off, a = some ⟨b, off, none⟩ ∧ b < w.heap.size ∧ w.cell? ⟨b, off + k * 2, none⟩ = some (.int .i64 (l.getD k (0, 0)).1) ∧ w.cell? ⟨b, off + k * 2 + 1, none⟩ = some (.int .i64 (l.getD k (0, 0)).2) := by
  obtain ⟨a', c', hv, hat⟩ := h.form
  cases hv
  exact hat k hk
theorem map_step {L : List Pi2} {G : Pi2 → Int} {k : Nat} (hk : k < L.length) : (L.take (k + 1)).map G = (L.take k).map G ++ [G (L.getD k (0, 0))] := by
  rw [List.take_succ_eq_append_getElem hk, List.map_append, List.getD_eq_getElem?_getD, List.getElem?_eq_getElem hk]; rfl
theorem info_zs3 : (Tryz.prog.info? 38).map (·.size) = some 3 := by kernel_rfl
theorem oi_set {w : World} {B q : Nat} {v : Value} {l : List Int} {C : Array Value} {t : TypeId} {f : Nat × Nat} (h : OwI w B v l) (hq : w.heap[q]? = some (.cells C t f)) (ht : t ≠ 3) (j : Nat) (u : Value) : OwI (w.setCell ⟨q, j, none⟩ u) B v l := own_setC h hq ht j u
/-- The worlds and frames in a region. -/
def EnInv (W : World) (bo bs f : Nat) (id lo SL SH GV : Int) (v5 : Value) (n : Nat) (xs : List Value) (u0 u1 u2 u4 u5 u6 u7 u8 u9 u10 u11 u13 u15 u16 u17 u18 u19 u20 u21 u22 u23 u24 u25 u26 u27 u28 u29 u30 u31 u32 u33 u34 u35 u36 u37 u38 u39 u40 u41 u42 u43 u44 u45 : Value) (listed : Array Bool) (a : Act) (w' : World) : Prop :=
  ∃ (l0 l1 l2 l3 l4 l5 l6 l7 l8 : Bool) (A : Nat) (V : Value), listed = #[l0, l1, l2, l3, l4, l5, l6, l7, l8] ∧ a = { tmps := #[u0, u1, u2, .func (.func f) #[] #[], u4, u5, u6, u7, u8, u9, u10, u11, .pointer (some ⟨bo, 0, none⟩), u13, .pointer (some ⟨bs, 0, none⟩), u15, u16, u17, u18, u19, u20, u21, u22, u23, u24, u25, u26, u27, u28, u29, u30, u31, u32, u33, u34, u35, pkIf l0 (.pointer (some ⟨bo, 2, none⟩)) (u36), pkIf l1 (v5) (u37), pkIf l2 (.func (.func f) #[] #[]) (u38), pkIf l3 (.agg #[.int .i64 SL, .int .i64 SH]) (u39), pkIf l4 (.int .i64 GV) (u40), pkIf l5 (.slice (some ⟨A, 0, none⟩) 1 1) (u41), pkIf l6 (V) (u42), pkIf l7 (.pointer (some ⟨bo, 2, none⟩)) (u43), u44, u45], defers := [] } ∧ Below W.heap.size W w' ∧ w'.ownsRow W.heap.size 3 1 (if l6 = true then V else v5) (if l6 = true then n + 1 else n) (if l6 = true then xs ++ [.int .i64 GV] else xs) ∧ (l5 = true → l6 = false → w'.heap[A]? = some (.cells #[.int .i64 GV] 3 (0, 0)) ∧ v5.ownBlock ≠ some A) ∧ (l6 = true → l5 = true) ∧ (l8 = true → l6 = true) ∧ (l6 = true → l1 = true) ∧ w'.heap[bo]? = some (.cells #[.int .i64 id, .int .i64 lo, (if l8 = true then V else v5)] 38 (0, 0)) ∧ w'.heap[bs]? = some (.cells #[.int .i64 SL, .int .i64 SH] 36 (0, 0))
set_option maxRecDepth 100000 in
set_option maxHeartbeats 8000000 in
theorem ends_any (v1 v2 : Value) (cs : List Ci) (ks : List Ck) (id lo hi : Int) (f : Nat) (G : Pi2 → Int) (w : World) (hv1 : CiRow w v1 cs) (hv2 : CkRow w v2 ks) (hl1 : cs.length ≤ 9223372036854775807) (hl2 : ks.length ≤ 9223372036854775807) (hf : ∀ args w', (callFunc f args).run Tryz.prog w' = .ok (.enter f args) w')
    (hcall : ∀ w' a b, Calls Tryz.prog f #[.agg #[.int .i64 a, .int .i64 b]] w' fun e w'' => e = .returned (.int .i64 (G (a, b))) ∧ Below w'.heap.size w' w'') :
    Calls Tryz.prog 54 #[.agg #[v1, v2], .int .i64 id, .agg #[.int .i64 lo, .int .i64 hi], .func (.func f) #[] #[]] w fun e w' => EnOut cs ks id lo hi G w e w' := by
  obtain ⟨a1, c1, rfl, _⟩ := hv1.form
  obtain ⟨a2, c2, rfl, _⟩ := hv2.form
  have HF := Lib.hid hf
  have HGG := Lib.hid hcall
  have HSN := Lib.hid (fun w' (h : Below w.heap.size w w') => spans_any (.slice a1 cs.length c1) (.slice a2 ks.length c2) cs ks id lo hi w' (hv1.keep h) (hv2.keep h) hl1 hl2)
  have HB4 : Hid (snE cs ks id lo hi = 0 → ∀ z, ciF cs id = some z → (spN z.dr (dlL z ks) lo (hi - lo + 1).toNat).length ≤ 400) := Lib.hid (fun h z hz => by
    rw [spN_len]
    unfold snE at h
    by_cases hc : ccE cs ks = 0
    · rw [if_pos hc] at h
      have := di_bd (ccE_ok hc) hz h
      omega
    · rw [if_neg hc] at h; exact absurd h hc)
  unfold SnOut at HSN
  unfold EnOut
  obtain ⟨E, hE⟩ : ∃ q, snE cs ks id lo hi = q := ⟨_, rfl⟩
  obtain ⟨F, hF⟩ : ∃ q, ciF cs id = q := ⟨_, rfl⟩
  simp only [hE, hF] at HSN HB4 ⊢
  obtain ⟨i0, hi0, hz0, hz1, hz2⟩ := info_parts info_in1
  clear hv1 hv2 hl1 hl2 hE hF hf hcall
  obtain ⟨x0, x1, x2, xlt, xb⟩ := cells3 w #[.slice a1 cs.length c1, .slice a2 ks.length c2] #[.int .i64 lo, .int .i64 hi] #[.int .i64 0, .int .i64 0, .slice none 0 0] 25 36 38 (Below.refl _ _)
  have HNc : Hid ((((w.alloc (.cells #[.slice a1 cs.length c1, .slice a2 ks.length c2] 25)).alloc (.cells #[.int .i64 lo, .int .i64 hi] 36)).alloc (.cells #[.int .i64 0, .int .i64 0, .slice none 0 0] 38)).heap[w.heap.size]? = some (.cells #[.slice a1 cs.length c1, .slice a2 ks.length c2] 25 (0, 0))) := Lib.hid x0
  have HNt : Hid ((((w.alloc (.cells #[.slice a1 cs.length c1, .slice a2 ks.length c2] 25)).alloc (.cells #[.int .i64 lo, .int .i64 hi] 36)).alloc (.cells #[.int .i64 0, .int .i64 0, .slice none 0 0] 38)).heap[w.heap.size + 1]? = some (.cells #[.int .i64 lo, .int .i64 hi] 36 (0, 0))) := Lib.hid x1
  have HNr : Hid ((((w.alloc (.cells #[.slice a1 cs.length c1, .slice a2 ks.length c2] 25)).alloc (.cells #[.int .i64 lo, .int .i64 hi] 36)).alloc (.cells #[.int .i64 0, .int .i64 0, .slice none 0 0] 38)).heap[w.heap.size + 1 + 1]? = some (.cells #[.int .i64 0, .int .i64 0, .slice none 0 0] 38 (0, 0))) := Lib.hid x2
  have HB : Hid (Below w.heap.size w (((w.alloc (.cells #[.slice a1 cs.length c1, .slice a2 ks.length c2] 25)).alloc (.cells #[.int .i64 lo, .int .i64 hi] 36)).alloc (.cells #[.int .i64 0, .int .i64 0, .slice none 0 0] 38))) := Lib.hid xb
  obtain ⟨Z, hZ⟩ : ∃ Z, (((w.alloc (.cells #[.slice a1 cs.length c1, .slice a2 ks.length c2] 25)).alloc (.cells #[.int .i64 lo, .int .i64 hi] 36)).alloc (.cells #[.int .i64 0, .int .i64 0, .slice none 0 0] 38)) = Z := ⟨_, rfl⟩
  rw [hZ] at HB HNc HNt HNr
  have HZ := Lib.hid hZ
  clear hZ xlt xb x0 x1 x2
  go_enter Tryz.func54, Tryz.ntmps54
  go_wp2_with fail
  rw [HZ.out]
  refine (HSN.out _ HB.out).mono ?_
  rintro e w1 ⟨hb, h1, h2⟩
  replace HB := Lib.hid (HB.out.trans (hb.mono HB.out.size))
  replace HNc := Lib.hid ((hb.block _ (Array.getElem?_eq_some_iff.1 HNc.out).1).trans HNc.out)
  replace HNt := Lib.hid ((hb.block _ (Array.getElem?_eq_some_iff.1 HNt.out).1).trans HNt.out)
  replace HNr := Lib.hid ((hb.block _ (Array.getElem?_eq_some_iff.1 HNr.out).1).trans HNr.out)
  clear hb
  by_cases h0 : E = 0
  case neg =>
    have he := h1 h0
    subst he
    have gE : (E != 0) = true := by simpa using h0
    have HX := Lib.hid h0
    clear h0 h1 h2
    have zr0 := cellH HNr.out 0
    have zr1 := cellH HNr.out 1
    have zr2 := cellH HNr.out 2
    simp only [List.getElem?_toArray, List.getElem?_cons_zero, List.getElem?_cons_succ] at zr0 zr1 zr2
    have zfr := freeH HNr.out
    go_wp2_with fail
    obtain ⟨z1, z2⟩ := set3 HNr.out HB.out (by omega) (.int .i64 0) (.int .i64 0) (.slice none 0 0)
    refine bodyPost_ret (res_ct Tryz.results54 _ _ (w.heap.size + 1 + 1) 38 #[.int .i64 0, .int .i64 0, .slice none 0 0] (0, 0) _ rfl z1 Tryz.underlying38 rfl info_zs3) rfl ?_
    exact ⟨z2, (fun _ => rfl), fun h => absurd h HX.out⟩
  have hh := h2 h0
  unfold SnHit at hh
  obtain ⟨z, v, hz, rfl, hr⟩ := hh
  have HLB := Lib.hid (HB4.out h0 z hz)
  have HZ8 := Lib.hid hz
  obtain ⟨L, hL⟩ : ∃ q, spN z.dr (dlL z ks) lo (hi - lo + 1).toNat = q := ⟨_, rfl⟩
  have HLEQ := Lib.hid hL
  rw [hL] at hr HLB
  obtain ⟨sa, sc, rfl, _⟩ := hr.form
  obtain ⟨N, hN⟩ : ∃ q, L.length = q := ⟨_, rfl⟩
  rw [hN] at HLB ⊢
  have HNL := Lib.hid hN
  rw [hN] at hr
  have HP := Lib.hid hr
  subst h0
  clear hz hr hL hN h1 h2 HB4
  have HWB := Lib.hid HB.out.size
  have HBW := HB
  have HQ : Hid (BlC w1 w1) := Lib.hid (Below.refl _ _)
  have HNcW := HNc
  have HNtW := HNt
  have HNrW := HNr
  have zt0 := cellH HNt.out 0
  have zt1 := cellH HNt.out 1
  simp only [List.getElem?_toArray, List.getElem?_cons_zero, List.getElem?_cons_succ] at zt0 zt1
  have hAlc : Below w1.heap.size w1 (w1.alloc (.cells #[.int .i64 0, .int .i64 0, .slice none 0 0] 38)) := (Below.refl _ w1).alloc (Nat.le_refl _) _
  have HSo : Hid (w.heap.size ≤ w1.heap.size) := Lib.hid HB.out.size
  have HNo : Hid ((w1.alloc (.cells #[.int .i64 0, .int .i64 0, .slice none 0 0] 38)).heap[w1.heap.size]? = some (.cells #[.int .i64 0, .int .i64 0, .slice none 0 0] 38 (0, 0))) := Lib.hid (heap_alloc_new _ _)
  replace HB := Lib.hid (HB.out.trans (hAlc.mono HB.out.size))
  have HXc_o : Hid (w.heap.size ≠ w1.heap.size) := Lib.hid (Nat.ne_of_lt (Array.getElem?_eq_some_iff.1 HNc.out).1)
  have HXt_o : Hid (w.heap.size + 1 ≠ w1.heap.size) := Lib.hid (Nat.ne_of_lt (Array.getElem?_eq_some_iff.1 HNt.out).1)
  have HXr_o : Hid (w.heap.size + 1 + 1 ≠ w1.heap.size) := Lib.hid (Nat.ne_of_lt (Array.getElem?_eq_some_iff.1 HNr.out).1)
  replace HNc := Lib.hid ((hAlc.block _ (Array.getElem?_eq_some_iff.1 HNc.out).1).trans HNc.out)
  replace HNt := Lib.hid ((hAlc.block _ (Array.getElem?_eq_some_iff.1 HNt.out).1).trans HNt.out)
  replace HNr := Lib.hid ((hAlc.block _ (Array.getElem?_eq_some_iff.1 HNr.out).1).trans HNr.out)
  replace HQ := Lib.hid (HQ.out.keep hAlc)
  obtain ⟨ao, hao⟩ : ∃ qq, w1.alloc (.cells #[.int .i64 0, .int .i64 0, .slice none 0 0] 38) = qq := ⟨_, rfl⟩
  obtain ⟨bko, hbo⟩ : ∃ qq, w1.heap.size = qq := ⟨_, rfl⟩
  rw [hao] at HB HNo HNc HNt HNr HQ
  rw [hbo] at HNo HSo HXc_o HXt_o HXr_o
  clear hAlc
  have hW2 : w1.heap.size = bko := hbo
  have zo0_3 := cellH HNo.out 0
  have zo1_3 := cellH HNo.out 1
  have zo2_3 := cellH HNo.out 2
  simp only [List.getElem?_toArray, List.getElem?_cons_zero, List.getElem?_cons_succ] at zo0_3 zo1_3 zo2_3
  have zfo_3 := freeH HNo.out
  replace HNc := Lib.hid ((heap_other ao (bko) 0 (.int .i64 id) _ HXc_o.out).trans HNc.out)
  replace HNt := Lib.hid ((heap_other ao (bko) 0 (.int .i64 id) _ HXt_o.out).trans HNt.out)
  replace HNr := Lib.hid ((heap_other ao (bko) 0 (.int .i64 id) _ HXr_o.out).trans HNr.out)
  replace HNo := Lib.hid (heap_same HNo.out 0 (.int .i64 id))
  simp only [List.setIfInBounds_toArray, List.set_cons_zero, List.set_cons_succ] at HNo
  replace HB := Lib.hid (HB.out.setCell (p := ⟨bko, 0, none⟩) HSo.out (.int .i64 id))
  replace HQ := Lib.hid (HQ.out.set (Nat.le_of_eq hW2) 0 (.int .i64 id))
  obtain ⟨s2, hs2⟩ : ∃ X, ao.setCell ⟨bko, 0, none⟩ (.int .i64 id) = X := ⟨_, rfl⟩
  rw [hs2] at HB HNc HNt HNr HNo HQ
  have zo0_4 := cellH HNo.out 0
  have zo1_4 := cellH HNo.out 1
  have zo2_4 := cellH HNo.out 2
  simp only [List.getElem?_toArray, List.getElem?_cons_zero, List.getElem?_cons_succ] at zo0_4 zo1_4 zo2_4
  have zfo_4 := freeH HNo.out
  replace HNc := Lib.hid ((heap_other s2 (bko) 1 (.int .i64 lo) _ HXc_o.out).trans HNc.out)
  replace HNt := Lib.hid ((heap_other s2 (bko) 1 (.int .i64 lo) _ HXt_o.out).trans HNt.out)
  replace HNr := Lib.hid ((heap_other s2 (bko) 1 (.int .i64 lo) _ HXr_o.out).trans HNr.out)
  replace HNo := Lib.hid (heap_same HNo.out 1 (.int .i64 lo))
  simp only [List.setIfInBounds_toArray, List.set_cons_zero, List.set_cons_succ] at HNo
  replace HB := Lib.hid (HB.out.setCell (p := ⟨bko, 1, none⟩) HSo.out (.int .i64 lo))
  replace HQ := Lib.hid (HQ.out.set (Nat.le_of_eq hW2) 1 (.int .i64 lo))
  obtain ⟨s3, hs3⟩ : ∃ X, s2.setCell ⟨bko, 1, none⟩ (.int .i64 lo) = X := ⟨_, rfl⟩
  rw [hs3] at HB HNc HNt HNr HNo HQ
  have zo0_5 := cellH HNo.out 0
  have zo1_5 := cellH HNo.out 1
  have zo2_5 := cellH HNo.out 2
  simp only [List.getElem?_toArray, List.getElem?_cons_zero, List.getElem?_cons_succ] at zo0_5 zo1_5 zo2_5
  have zfo_5 := freeH HNo.out
  replace HNc := Lib.hid ((heap_other s3 (bko) 2 (.slice none 0 0) _ HXc_o.out).trans HNc.out)
  replace HNt := Lib.hid ((heap_other s3 (bko) 2 (.slice none 0 0) _ HXt_o.out).trans HNt.out)
  replace HNr := Lib.hid ((heap_other s3 (bko) 2 (.slice none 0 0) _ HXr_o.out).trans HNr.out)
  replace HNo := Lib.hid (heap_same HNo.out 2 (.slice none 0 0))
  simp only [List.setIfInBounds_toArray, List.set_cons_zero, List.set_cons_succ] at HNo
  replace HB := Lib.hid (HB.out.setCell (p := ⟨bko, 2, none⟩) HSo.out (.slice none 0 0))
  replace HQ := Lib.hid (HQ.out.set (Nat.le_of_eq hW2) 2 (.slice none 0 0))
  obtain ⟨s4, hs4⟩ : ∃ X, s3.setCell ⟨bko, 2, none⟩ (.slice none 0 0) = X := ⟨_, rfl⟩
  rw [hs4] at HB HNc HNt HNr HNo HQ
  have HW2 := Lib.hid hW2
  clear hW2
  have HOW : Hid (OwI s4 w1.heap.size (.slice none 0 0) ((L.take 0).map G)) := Lib.hid ⟨rfl, .inl ⟨rfl, rfl⟩⟩
  go_wp2_with fail
  try clear hao hbo hs2 hs3 hs4
  clear zt0 zt1 zo0_3 zo1_3 zo2_3 zfo_3 zo0_4 zo1_4 zo2_4 zfo_4 zo0_5 zo1_5 zo2_5 zfo_5
  clear HNc HNt
  go_loopw [32] (fun i wr => ∃ (k : Nat) (o : Value), k ≤ N ∧ i = .int .i64 k ∧ Hid (OwI wr w1.heap.size o ((L.take k).map G)) ∧ Hid (Below w.heap.size w wr) ∧ Hid (wr.heap[w.heap.size + 1 + 1]? = some (.cells #[.int .i64 0, .int .i64 0, .slice none 0 0] 38 (0, 0))) ∧ Hid (wr.heap[bko]? = some (.cells #[.int .i64 id, .int .i64 lo, o] 38 (0, 0))) ∧ Hid (BlC w1 wr)) (fun i _ => N - (intOf i).toNat)
  case atStart => exact ⟨0, _, Nat.zero_le _, rfl, HOW, HB, HNr, HNo, HQ⟩
  case round =>
    clear HB HNr HNo HQ
    clear HOW
    obtain ⟨k, o, hk, rfl, HOW, HB, HNr, HNo, HQ⟩ := hrel
    have hlb := HLB.out
    by_cases hkl : k < N
    · have hkL : k < L.length := by rw [HNL.out]; exact hkl
      obtain ⟨b, off, rfl, hb, e0, e1⟩ := (HP.out.keep HQ.out).at k hkL
      have hki : (k : Int) < N := by omega
      have hk0 : (0 : Int) ≤ k := by omega
      have HKL := Lib.hid hkl
      have HST := Lib.hid (map_step (G := G) hkL)
      have HLN : Hid (((L.take k).map G).length = k) := Lib.hid (by rw [List.length_map, List.length_take]; omega)
      obtain ⟨X, hX⟩ : ∃ X, L.getD k (0, 0) = X := ⟨_, rfl⟩
      rw [hX] at e0 e1 HST
      obtain ⟨SL, SH⟩ := X
      simp only at e0 e1
      have HGC := Lib.hid (fun w' => HGG.out w' SL SH)
      obtain ⟨GV, hGV⟩ : ∃ q, G (SL, SH) = q := ⟨_, rfl⟩
      rw [hGV] at HST HGC
      obtain ⟨FL, hFL⟩ : ∃ q, (L.take k).map G = q := ⟨_, rfl⟩
      rw [hFL] at HST HOW HLN
      have hln : FL.length ≤ 400 := by rw [HLN.out]; omega
      clear hX hb hFL hGV hkL
      have hAlc : Below wr.heap.size wr (wr.alloc (.cells #[.int .i64 SL, .int .i64 SH] 36)) := (Below.refl _ wr).alloc (Nat.le_refl _) _
      have HSsp : Hid (w.heap.size ≤ wr.heap.size) := Lib.hid HB.out.size
      have HNsp : Hid ((wr.alloc (.cells #[.int .i64 SL, .int .i64 SH] 36)).heap[wr.heap.size]? = some (.cells #[.int .i64 SL, .int .i64 SH] 36 (0, 0))) := Lib.hid (heap_alloc_new _ _)
      replace HB := Lib.hid (HB.out.trans (hAlc.mono HB.out.size))
      have HXr_sp : Hid (w.heap.size + 1 + 1 ≠ wr.heap.size) := Lib.hid (Nat.ne_of_lt (Array.getElem?_eq_some_iff.1 HNr.out).1)
      have HXo_sp : Hid (bko ≠ wr.heap.size) := Lib.hid (Nat.ne_of_lt (Array.getElem?_eq_some_iff.1 HNo.out).1)
      replace HNr := Lib.hid ((hAlc.block _ (Array.getElem?_eq_some_iff.1 HNr.out).1).trans HNr.out)
      replace HNo := Lib.hid ((hAlc.block _ (Array.getElem?_eq_some_iff.1 HNo.out).1).trans HNo.out)
      replace HQ := Lib.hid (HQ.out.keep hAlc)
      replace HOW := Lib.hid (HOW.out.keep hAlc)
      obtain ⟨asp, hasp⟩ : ∃ qq, wr.alloc (.cells #[.int .i64 SL, .int .i64 SH] 36) = qq := ⟨_, rfl⟩
      obtain ⟨bksp, hbsp⟩ : ∃ qq, wr.heap.size = qq := ⟨_, rfl⟩
      rw [hasp] at HB HNsp HNr HNo HQ HOW
      rw [hbsp] at HNsp HSsp HXr_sp HXo_sp
      clear hAlc
      go_wp2_with fail
      try clear hasp hbsp
      clear e0 e1
      refine wp_region_invn (by kernel_rfl) (EnInv w1 bko bksp f id lo SL SH GV o FL.length (FL.map (Value.int .i64)) _ _ _ _ _ _ _ _ _ _ _ _ _ _ _ _ _ _ _ _ _ _ _ _ _ _ _ _ _ _ _ _ _ _ _ _ _ _ _ _ _ _ _) ⟨false, false, false, false, false, false, false, false, false, 0, undef, rfl, rfl, (Below.drew HQ.out), HOW.out.drew, by simp, by simp, by simp, by simp, HNo.out, HNsp.out⟩ ?hend ?hstep
      case hstep =>
        rintro listed a w' i ⟨l0, l1, l2, l3, l4, l5, l6, l7, l8, A, V, rfl, rfl, hb, hO, hA, kA, kS, kL, xo, xsp⟩ hi
        obtain ⟨hf, o', ho', hp⟩ := mem_ready.1 hi
        have hin : i < 9 := (Array.getElem?_eq_some_iff.1 ho').1
        clear hi
        match i, hin with
        | 0, _ =>
          obtain rfl : l0 = false := by simpa using hf
          clear hp ho'
          unfold wpOp
          simp only [pkIf_true]
          go_simp
          exact .inl ⟨true, l1, l2, l3, l4, l5, l6, l7, l8, A, V, rfl, rfl, hb, hO, hA, kA, kS, kL, xo, xsp⟩
        | 1, _ =>
          obtain rfl : l1 = false := by simpa using hf
          obtain rfl : l6 = false := by
            cases l6 with
            | false => rfl
            | true => exact absurd (kL rfl) (by decide)
          obtain rfl : l8 = false := by
            cases l8 with
            | false => rfl
            | true => exact absurd (kS rfl) (by decide)
          cases ho'
          obtain rfl : l0 = true := by simpa using hp ⟨0, .data⟩ (by simp) rfl
          clear hp
          simp only [Bool.false_eq_true, if_false] at xo
          have c0 := cellH xo 2
          simp only [List.getElem?_toArray, List.getElem?_cons_zero, List.getElem?_cons_succ] at c0
          unfold wpOp
          simp only [pkIf_true]
          go_simp
          exact .inl ⟨true, true, l2, l3, l4, l5, false, l7, false, A, V, rfl, rfl, hb, hO, hA, kA, kS, (fun _ => rfl), xo, xsp⟩
        | 2, _ =>
          obtain rfl : l2 = false := by simpa using hf
          clear hp ho'
          unfold wpOp
          simp only [pkIf_true]
          go_simp
          exact .inl ⟨l0, l1, true, l3, l4, l5, l6, l7, l8, A, V, rfl, rfl, hb, hO, hA, kA, kS, kL, xo, xsp⟩
        | 3, _ =>
          obtain rfl : l3 = false := by simpa using hf
          clear hp ho'
          have c0 := cellH xsp 0
          simp only [List.getElem?_toArray, List.getElem?_cons_zero, List.getElem?_cons_succ] at c0
          have c1 := cellH xsp 1
          simp only [List.getElem?_toArray, List.getElem?_cons_zero, List.getElem?_cons_succ] at c1
          unfold wpOp
          simp only [pkIf_true]
          go_simp
          exact .inl ⟨l0, l1, l2, true, l4, l5, l6, l7, l8, A, V, rfl, rfl, hb, hO, hA, kA, kS, kL, xo, xsp⟩
        | 4, _ =>
          obtain rfl : l4 = false := by simpa using hf
          cases ho'
          obtain rfl : l2 = true := by simpa using hp ⟨2, .data⟩ (by simp) rfl
          obtain rfl : l3 = true := by simpa using hp ⟨3, .data⟩ (by simp) rfl
          clear hp
          have hen := HF.out #[.agg #[.int .i64 SL, .int .i64 SH]] w'
          unfold wpOp
          simp only [pkIf_true]
          go_simp
          refine .inl ((HGC.out w').mono ?_)
          rintro e w9 ⟨rfl, hb9⟩
          exact ⟨l0, l1, true, true, true, l5, l6, l7, l8, A, V, rfl, rfl, hb.trans (hb9.mono hb.size), ownBelow hO hb9, (fun q1 q2 => ⟨(hb9.block _ (Array.getElem?_eq_some_iff.1 (hA q1 q2).1).1).trans (hA q1 q2).1, (hA q1 q2).2⟩), kA, kS, kL, ((hb9.block _ (Array.getElem?_eq_some_iff.1 xo).1).trans xo), ((hb9.block _ (Array.getElem?_eq_some_iff.1 xsp).1).trans xsp)⟩
        | 5, _ =>
          obtain rfl : l5 = false := by simpa using hf
          obtain rfl : l6 = false := by
            cases l6 with
            | false => rfl
            | true => exact absurd (kA rfl) (by decide)
          obtain rfl : l8 = false := by
            cases l8 with
            | false => rfl
            | true => exact absurd (kS rfl) (by decide)
          cases ho'
          obtain rfl : l4 = true := by simpa using hp ⟨4, .data⟩ (by simp) rfl
          clear hp
          unfold wpOp
          simp only [pkIf_true]
          go_simp
          simp only [Bool.false_eq_true, if_false] at hO xo xsp
          exact .inl ⟨l0, l1, l2, l3, true, true, false, l7, false, w'.heap.size, V, rfl, rfl, hb.alloc hb.size _, by simpa using hO.alloc _, (fun _ _ => ⟨heap_alloc_new _ _, fun e => Nat.lt_irrefl _ (World.ownsRow.lt hO _ e).2⟩), (fun h => by cases h), (fun h => by cases h), (fun h => by cases h), (by simpa using (gNe _ _ _ (Nat.ne_of_lt (Array.getElem?_eq_some_iff.1 xo).1)).trans xo), (by simpa using (gNe _ _ _ (Nat.ne_of_lt (Array.getElem?_eq_some_iff.1 xsp).1)).trans xsp)⟩
        | 6, _ =>
          obtain rfl : l6 = false := by simpa using hf
          obtain rfl : l8 = false := by
            cases l8 with
            | false => rfl
            | true => exact absurd (kS rfl) (by decide)
          cases ho'
          obtain rfl : l1 = true := by simpa using hp ⟨1, .data⟩ (by simp) rfl
          obtain rfl : l5 = true := by simpa using hp ⟨5, .data⟩ (by simp) rfl
          clear hp
          obtain ⟨f1, f2⟩ := hA rfl rfl
          simp only [Bool.false_eq_true, if_false] at hO xo xsp
          unfold wpOp
          simp only [pkIf_true, List.getElem?_toArray, List.getElem?_cons_succ, List.getElem?_cons_zero]
          refine ifWanted rfl (append_at_wp _ _ 26 rfl w1.heap.size 3 i0 (.int .i64 0) 1 8 Tryz.underlying26 hi0 hz0 hz1 hz2 rfl (by decide) o FL.length (FL.map (Value.int .i64)) rfl hO ⟨A, 0, none⟩ 1 1 [.int .i64 GV] rfl rfl (fun j u hu => cell_add f1 j u hu) (by simp [Value.oneCell']) (by unfold maxLen; omega) (by omega) hb.size ?_)
          intro v' w9 hown hgr hat
          exact ⟨l0, true, l2, l3, l4, true, true, l7, false, A, v', rfl, rfl, hb.grown hgr hb.size (fun j e => (World.ownsRow.lt hO j e).1), by simpa using hown, (fun _ h => by cases h), (fun _ => rfl), (fun h => by cases h), (fun _ => rfl), (by simpa using ((hgr.block _ (Array.getElem?_eq_some_iff.1 xo).1 (fun e => own_neC hO xo (by decide) e.symm)).trans xo)), (by simpa using ((hgr.block _ (Array.getElem?_eq_some_iff.1 xsp).1 (fun e => own_neC hO xsp (by decide) e.symm)).trans xsp))⟩
        | 7, _ =>
          obtain rfl : l7 = false := by simpa using hf
          clear hp ho'
          unfold wpOp
          simp only [pkIf_true]
          go_simp
          exact .inl ⟨l0, l1, l2, l3, l4, l5, l6, true, l8, A, V, rfl, rfl, hb, hO, hA, kA, kS, kL, xo, xsp⟩
        | 8, _ =>
          obtain rfl : l8 = false := by simpa using hf
          cases ho'
          obtain rfl : l7 = true := by simpa using hp ⟨7, .data⟩ (by simp) rfl
          obtain rfl : l6 = true := by simpa using hp ⟨6, .data⟩ (by simp) rfl
          clear hp
          simp only [Bool.false_eq_true, if_false, if_true] at hO xo xsp
          obtain rfl : l5 = true := kA rfl
          obtain rfl : l1 = true := kL rfl
          obtain ⟨qa, qc, rfl⟩ := row_formC hO
          have y0 := cellH xo 0
          have y1 := cellH xo 1
          have y2 := cellH xo 2
          have yf := freeH xo
          simp only [List.getElem?_toArray, List.getElem?_cons_zero, List.getElem?_cons_succ] at y0 y1 y2
          have z1 := heap_same xo 2 (.slice qa (FL.length + 1) qc)
          simp only [List.setIfInBounds_toArray, List.set_cons_zero, List.set_cons_succ] at z1
          unfold wpOp
          simp only [pkIf_true]
          go_simp
          exact .inl ⟨l0, true, l2, l3, l4, true, true, true, true, A, (.slice qa (FL.length + 1) qc), rfl, rfl, hb.setCell (p := ⟨bko, 2, none⟩) (Nat.le_of_eq HW2.out) (.slice qa (FL.length + 1) qc), by simpa using own_setC hO xo (by decide) 2 (.slice qa (FL.length + 1) qc), (fun _ h => by cases h), kA, (fun _ => rfl), kL, by simpa using z1, (heap_other _ _ 2 (.slice qa (FL.length + 1) qc) _ (fun e => HXo_sp.out e.symm)).trans xsp⟩
      case hend =>
        rintro listed a w5 ⟨l0, l1, l2, l3, l4, l5, l6, l7, l8, A, V, rfl, rfl, hb, hO, _, _, _, _, xo, xsp⟩ hall
        have hal0 := ready_all (by kernel_rfl) rfl hall 9
        have hal : l0 = true ∧ l1 = true ∧ l2 = true ∧ l3 = true ∧ l4 = true ∧ l5 = true ∧ l6 = true ∧ l7 = true ∧ l8 = true := ⟨hal0 0 (by decide) (by simp), hal0 1 (by decide) (by simp), hal0 2 (by decide) (by simp), hal0 3 (by decide) (by simp), hal0 4 (by decide) (by simp), hal0 5 (by decide) (by simp), hal0 6 (by decide) (by simp), hal0 7 (by decide) (by simp), hal0 8 (by decide) (by simp)⟩
        obtain ⟨rfl, rfl, rfl, rfl, rfl, rfl, rfl, rfl, rfl⟩ := hal
        simp only [if_true] at hO xo xsp
        have HQ9 : Hid (BlC w1 w5) := Lib.hid hb
        have HO9 := Lib.hid hO
        have HNo9 := Lib.hid xo
        have HNsp9 := Lib.hid xsp
        simp only [pkIf_true, List.drop_succ_cons, List.drop_zero]
        clear hall hal0 hb hO xo xsp
        have HB9 : Hid (Below w.heap.size w w5) := Lib.hid (HBW.out.trans (Below.mono HQ9.out HWB.out))
        have HNr9 := Lib.hid ((Below.block HQ9.out _ (Array.getElem?_eq_some_iff.1 HNrW.out).1).trans HNrW.out)
        have HOW9 : Hid (OwI w5 w1.heap.size V ((L.take (k + 1)).map G)) := Lib.hid (by
          rw [HST.out]
          unfold OwI
          rw [List.length_append, List.map_append]; exact HO9.out)
        go_wp2_with fail
        go_roundw
        case rel => exact ⟨k + 1, V, HKL.out, by go_num, HOW9, HB9, HNr9, HNo9, HQ9⟩
        case measure => have := HKL.out; simp [intOf]; omega
    · obtain rfl : k = N := by omega
      have hki : ¬ (k : Int) < k := by omega
      have hof := HOW.out
      rw [← HNL.out, List.take_length] at hof
      obtain ⟨M, hM⟩ : ∃ q, L.map G = q := ⟨_, rfl⟩
      have HMQ := Lib.hid hM
      rw [hM] at hof
      have HOF := Lib.hid hof
      obtain ⟨oa, oc, rfl⟩ := row_formC hof
      clear hof hM HOW hkl hk hlb
      have zr0 := cellH HNr.out 0
      have zr1 := cellH HNr.out 1
      have zr2 := cellH HNr.out 2
      have zo0 := cellH HNo.out 0
      have zo1 := cellH HNo.out 1
      have zo2 := cellH HNo.out 2
      simp only [List.getElem?_toArray, List.getElem?_cons_zero, List.getElem?_cons_succ] at zr0 zr1 zr2 zo0 zo1 zo2
      have zfr := freeH HNr.out
      go_wp2_with fail
      obtain ⟨z1, z2⟩ := set3 HNr.out HB.out (by omega) (.int .i64 id) (.int .i64 lo) (.slice oa M.length oc)
      refine bodyPost_ret (res_ct Tryz.results54 _ _ (w.heap.size + 1 + 1) 38 #[.int .i64 id, .int .i64 lo, .slice oa M.length oc] (0, 0) _ rfl z1 Tryz.underlying38 rfl info_zs3) rfl ?_
      exact ⟨z2, EnHit.mk HZ8.out rfl (by rw [HLEQ.out, HMQ.out]; exact OwI.base (oi_set (oi_set (oi_set HOF.out HNr.out (by decide) 0 _) (heap_same HNr.out 0 _) (by decide) 1 _) (heap_same (heap_same HNr.out 0 _) 1 _) (by decide) 2 _) HWB.out)⟩
end Go.Proofs.YtebdboacmeafaaaGreat
