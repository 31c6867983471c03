/- Package firetowerref05: put. -/
import Derived.Test.YtebdboacmeafaaaGreatCDC
import Derived.Test.YtebdboacmeafaaaGreatCD9
import Derived.Test.YtebdboacmeafaaaGreatCEA
import Derived.Test.YtebdboacmeafaaaGreatCB8
set_option linter.unusedVariables false
set_option linter.unusedSimpArgs false
namespace Go.Proofs.YtebdboacmeafaaaGreat
open Go Go.RowKit

/-- A pair stands ahead of another one. -/
def ltP (a b : Pi2) : Bool := decide (a.1 < b.1) || (a.1 == b.1 && decide (a.2 < b.2))
/-- How many pairs at a list's beginning stand ahead of a pair. -/
def atP (l : List Pi2) (p : Pi2) : Nat := (l.takeWhile fun a => ltP a p).length
/-- A pair put into a list. -/
def putP (l : List Pi2) (p : Pi2) : List Pi2 := l.take (atP l p) ++ p :: l.drop (atP l p)
theorem atP_le (l : List Pi2) (p : Pi2) : atP l p ≤ l.length := by
  unfold atP
  induction l with
  | nil => simp
  | cons a l ih => rw [List.takeWhile_cons]; split <;> simp; omega
theorem atP_eq : ∀ {l : List Pi2} {p : Pi2} {k : Nat}, k ≤ l.length → (∀ j, j < k → ltP (l.getD j (0, 0)) p = true) → (k < l.length → ltP (l.getD k (0, 0)) p = false) → atP l p = k
  | [], p, k, hk, _, _ => by simp at hk; subst hk; rfl
  | a :: l, p, 0, _, _, h2 => by
    have h := h2 (by simp)
    have h' : ltP a p = false := h
    unfold atP
    rw [List.takeWhile_cons, h']; rfl
  | a :: l, p, k + 1, hk, h1, h2 => by
    have h0 : ltP a p = true := h1 0 (by omega)
    have ih := atP_eq (l := l) (p := p) (k := k) (by simpa using hk) (fun j hj => h1 (j + 1) (by omega)) (fun h => h2 (by simpa using h))
    unfold atP at ih ⊢
    rw [List.takeWhile_cons, h0]
    simp only [if_true, List.length_cons, ih]
theorem putP_len (l : List Pi2) (p : Pi2) : (putP l p).length = l.length + 1 := by
  have := atP_le l p
  unfold putP
  rw [List.length_append, List.length_cons, List.length_take, List.length_drop]
  omega
/-- A row's value has room for its elements. -/
def P2Cap (v : Value) : Prop := ∃ a n c, v = .slice a n c ∧ n ≤ c
theorem P2Cap.of_own {w : World} {base : Nat} {v : Value} {n : Nat} {xs : List Value} (h : w.ownsRow base 68 2 v n xs) : P2Cap v := by
  rcases h.2 with ⟨h1, h2⟩ | ⟨nb, nc, cur, e1, e2, e3, e4, e5, e6, e7⟩
  · exact ⟨_, _, _, h1, Nat.le_refl _⟩
  · exact ⟨_, _, _, e1, e4⟩
theorem P2Row.cut {w : World} {a : Option Addr} {n c : Nat} {l : List Pi2} (h : P2Row w (.slice a n c) l) (k : Nat) (hk : k ≤ l.length) : P2Row w (.slice a k c) (l.take k) := by
  rcases h with ⟨_, _, hv, rfl⟩ | ⟨b', off', c', hv, h1, hc⟩
  · obtain rfl : k = 0 := by simpa using hk
    exact .inl ⟨_, _, rfl, rfl⟩
  · cases hv
    have hl : (l.take k).length = k := by rw [List.length_take]; omega
    refine .inr ⟨b', off', c, by rw [hl], h1, fun i hi => ?_⟩
    rw [hl] at hi
    have := hc i (by omega)
    rwa [List.getD_eq_getElem?_getD, List.getElem?_take_of_lt hi, ← List.getD_eq_getElem?_getD]
theorem P2Row.rest {w : World} {b off n c : Nat} {l : List Pi2} (h : P2Row w (.slice (some ⟨b, off, none⟩) n c) l) (k : Nat) (hk : k < l.length) (c' : Nat) : P2Row w (.slice (some ⟨b, off + k * 2, none⟩) (n - k) c') (l.drop k) := by
  rcases h with ⟨_, _, hv, rfl⟩ | ⟨b', off', c2, hv, h1, hc⟩
  · simp at hk
  · cases hv
    have hl : (l.drop k).length = l.length - k := List.length_drop
    refine .inr ⟨b, off + k * 2, c', by rw [hl], h1, fun i hi => ?_⟩
    rw [hl] at hi
    have := hc (k + i) (by omega)
    rw [show off + (k + i) * 2 = off + k * 2 + i * 2 by omega] at this
    rwa [List.getD_eq_getElem?_getD, List.getElem?_drop, ← List.getD_eq_getElem?_getD]
theorem info_p2 : (Tryz.prog.info? 68).map (fun i => (i.zero, i.size, i.bytes)) = some (some (.agg #[.int .i64 0, .int .i64 0]), 2, 16) := by kernel_rfl
theorem flat2_one (l : List Pi2) : ∀ u ∈ l.flatMap enc2, u.oneCell' = true := fun u hu => by
  obtain ⟨t, _, h⟩ := List.mem_flatMap.1 hu
  unfold enc2 at h
  simp only [List.mem_cons, List.not_mem_nil, or_false] at h
  rcases h with rfl | rfl <;> rfl
theorem grown_reflP (w : World) (r : Option Nat) : w.grownBy w r := ⟨rfl, rfl, rfl, Nat.le_refl _, fun _ _ _ => rfl⟩
theorem pair_append {o : Oper} {a : Act} {w : World} {K : Act → World → Prop} {Q : Exit → Act → World → Prop} (s x : Operand)
    (hop : o.op = Op.call { callee := Callee.builtin Builtin.append, args := #[s, x], argTypes := #[60, 60] }) (base : Nat) (v : Value) (n : Nat) (olds : List Value) (hs : a.eval s = v) (hown : w.ownsRow base 68 2 v n olds)
    (tv : Value) (l : List Pi2) (hx : a.eval x = tv) (ht : P2Row w tv l) (hT : l.length ≤ 4000) (hn : n ≤ 4001) (hb : base ≤ w.heap.size)
    (hK : ∀ v' w', w'.ownsRow base 68 2 v' (n + l.length) (olds ++ l.flatMap enc2) → w.grownBy w' v.ownBlock → (v'.ownBlock = v.ownBlock ∨ v'.ownBlock = some w.heap.size) → K (a.put o.dst v') w') : Oper.wp Tryz.prog o a w K Q := by
  obtain ⟨i0, hi, hz0, hz1, hz2⟩ := info_parts info_p2
  have main : ∀ (ad : Addr) (c : Nat), tv = .slice (some ad) l.length c → (∀ j u, (l.flatMap enc2)[j]? = some u → w.cell? (ad.add j) = some u) → Oper.wp Tryz.prog o a w K Q := fun ad c h1 h2 =>
    append_at_wp s x 60 hop base 68 i0 (.agg #[.int .i64 0, .int .i64 0]) 2 16 Tryz.underlying60 hi hz0 hz1 hz2 rfl (by decide) v n olds hs hown ad l.length c (l.flatMap enc2) (hx.trans h1) (flat2_len l) h2 (flat2_one l) (by unfold maxLen; omega) (by omega) hb hK
  rcases ht with ⟨a0, cap, rfl, rfl⟩ | ⟨b, off, cap, rfl, hb', hc⟩
  · cases a0 with
    | some ad => exact main ad cap rfl (fun j u h => by simp at h)
    | none =>
      have hrun : (Builtin.append_ #[60, 60] o.type #[v, .slice none 0 cap]).run Tryz.prog w = .ok v w := by
        rcases hown.2 with ⟨rfl, rfl⟩ | ⟨g, c', cur, rfl, _, _, hnc, _⟩
        · simp [Builtin.append_, run_underlying Tryz.underlying60, sizeOf, typeInfo, hi, Builtin.lenOf, Builtin.firstCells]
        · simp [Builtin.append_, run_underlying Tryz.underlying60, sizeOf, typeInfo, hi, Builtin.lenOf, Builtin.firstCells, hnc, storeCells]
      unfold Oper.wp
      simp [execOp, hop, resolve, invoke, builtin, hs, hx, hrun, Result.andThen]
      exact hK v w (by simpa using hown) (grown_reflP _ _) (.inl rfl)
  · refine main ⟨b, off, none⟩ cap rfl fun j u h => ?_
    rw [show (⟨b, off, none⟩ : Addr).add j = ⟨b, off + j, none⟩ by unfold Addr.add; split <;> simp_all]
    have hj : j < l.length * 2 := by have := (List.getElem?_eq_some_iff.1 h).1; rwa [flat2_len] at this
    obtain ⟨g1, g2⟩ := flat2_get l (j / 2) (by omega)
    obtain ⟨c1, c2⟩ := hc (j / 2) (by omega)
    rcases (by omega : j % 2 = 0 ∨ j % 2 = 1) with e | e
    · rw [show j / 2 * 2 = j by omega] at g1 c1
      rw [h] at g1; cases g1; exact c1
    · rw [show j / 2 * 2 + 1 = j by omega] at g2
      rw [show off + j / 2 * 2 + 1 = off + j by omega] at c2
      rw [h] at g2; cases g2; exact c2
/-- The worlds and frames in put's last region. -/
def PutInv (W1 : World) (wz k n : Nat) (p1 p2 : Int) (lv S1 S2 : Value) (xs1 xs2 : List Value) (u1 u2 u4 u6 u7 u8 u9 u10 u11 u12 u13 u14 u15 u16 u17 u18 u19 u20 u21 u22 u23 u24 u25 u26 u27 u28 u29 u30 u31 u32 u33 u34 u35 u36 u37 u38 u39 u40 u41 u42 u43 u44 u45 u46 u47 u48 u49 u50 u51 u52 u53 : Value) (listed : Array Bool) (a : Act) (w' : World) : Prop :=
  ∃ (l0 l1 l2 l3 l4 l5 l6 l7 l8 l9 l10 l11 : Bool) (A B : Nat) (V V2 V3 : Value), listed = #[l0, l1, l2, l3, l4, l5, l6, l7, l8, l9, l10, l11, false] ∧ a = { tmps := #[lv, u1, u2, .pointer (some ⟨wz, 0, none⟩), u4, .int .i64 (k : Nat), u6, u7, u8, u9, u10, u11, u12, u13, u14, u15, u16, u17, u18, u19, u20, u21, u22, u23, u24, u25, u26, u27, u28, u29, u30, u31, u32, u33, u34, u35, u36, u37, u38, u39, u40, u41, pkIf l0 (.slice (some ⟨A, 0, none⟩) 0 0) (u42), pkIf l1 (lv) (u43), pkIf l2 (.int .i64 (k : Nat)) (u44), pkIf l3 (S1) (u45), pkIf l4 (V) (u46), pkIf l5 (.agg #[.int .i64 p1, .int .i64 p2]) (u47), pkIf l6 (.slice (some ⟨B, 0, none⟩) 1 1) (u48), pkIf l7 (V2) (u49), pkIf l8 (lv) (u50), pkIf l9 (.int .i64 (k : Nat)) (u51), pkIf l10 (S2) (u52), pkIf l11 (V3) (u53)], defers := [] } ∧ Below W1.heap.size W1 w' ∧
    (l0 = true → l4 = false → w'.ownsRow W1.heap.size 68 2 (.slice (some ⟨A, 0, none⟩) 0 0) 0 []) ∧ (l4 = true → l7 = false → w'.ownsRow W1.heap.size 68 2 V k xs1) ∧ (l7 = true → l11 = false → w'.ownsRow W1.heap.size 68 2 V2 (k + 1) (xs1 ++ [.int .i64 p1, .int .i64 p2])) ∧
    (l11 = true → w'.ownsRow W1.heap.size 68 2 V3 (k + 1 + n) (xs1 ++ [.int .i64 p1, .int .i64 p2] ++ xs2)) ∧ (l6 = true → l7 = false → w'.heap[B]? = some (.cells #[.int .i64 p1, .int .i64 p2] 68 (0, 0)) ∧ (l0 = true → l4 = false → A ≠ B) ∧ (l4 = true → V.ownBlock ≠ some B)) ∧
    (l4 = true → l0 = true) ∧ (l7 = true → l4 = true ∧ l6 = true) ∧ (l11 = true → l7 = true)
/-- What put returns. -/
def PutOut (L : List Pi2) (w : World) (e : Ending) (w' : World) : Prop := ∃ v, e = .returned v ∧ P2Row w' v L ∧ P2Cap v ∧ Below w.heap.size w w'
theorem below_keepN {w : World} (k : Nat) : Below w.heap.size w (w.drewN k) := ⟨rfl, rfl, rfl, Nat.le_refl _, fun _ _ => rfl⟩
set_option maxRecDepth 100000 in
set_option maxHeartbeats 8000000 in
theorem put_any (v : Value) (l : List Pi2) (p1 p2 : Int) (w : World) (hv : P2Row w v l) (hcap : P2Cap v) (hl : l.length ≤ 4000) :
    Calls Tryz.prog 110 #[v, .agg #[.int .i64 p1, .int .i64 p2]] w fun e w' => PutOut (putP l (p1, p2)) w e w' := by
  obtain ⟨la, cap, rfl, hc⟩ := hv.form
  have hnc : l.length ≤ cap := by
    obtain ⟨a0, n0, c0, hv0, h⟩ := hcap
    cases hv0; exact h
  have HC := Lib.hid hc
  have HV := Lib.hid hv
  have HLL := Lib.hid (show l.length ≤ 4000 ∧ l.length ≤ cap from ⟨hl, hnc⟩)
  have HAT := Lib.hid (fun k h1 h2 h3 => atP_eq (l := l) (p := (p1, p2)) (k := k) h1 h2 h3)
  have HPP : Hid (putP l (p1, p2) = l.take (atP l (p1, p2)) ++ (p1, p2) :: l.drop (atP l (p1, p2))) := Lib.hid rfl
  obtain ⟨AT, hAT⟩ : ∃ q, atP l (p1, p2) = q := ⟨_, rfl⟩
  obtain ⟨PL, hPL⟩ : ∃ q, putP l (p1, p2) = q := ⟨_, rfl⟩
  rw [hAT] at HAT HPP
  rw [hPL] at HPP ⊢
  clear hv hc hl hnc hAT hPL
  obtain ⟨i0, hi0, hz0, hz1, hz2⟩ := info_parts info_p2
  obtain ⟨x0, xlt, xb⟩ := cells1 w #[.int .i64 p1, .int .i64 p2] 68 (Below.refl _ _)
  have HNp : Hid ((w.alloc (.cells #[.int .i64 p1, .int .i64 p2] 68)).heap[w.heap.size]? = some (.cells #[.int .i64 p1, .int .i64 p2] 68 (0, 0))) := Lib.hid x0
  have HB : Hid (Below w.heap.size w (w.alloc (.cells #[.int .i64 p1, .int .i64 p2] 68))) := Lib.hid xb
  obtain ⟨Z, hZ⟩ : ∃ Z, (w.alloc (.cells #[.int .i64 p1, .int .i64 p2] 68)) = Z := ⟨_, rfl⟩
  rw [hZ] at HB HNp
  have HZ := Lib.hid hZ
  clear hZ xlt xb x0
  go_enter Tryz.func110, Tryz.ntmps110
  go_wp2_with fail
  rw [HZ.out]
  go_loopw [5] (fun i wr => ∃ (k : Nat), k ≤ l.length ∧ i = .int .i64 k ∧ Hid (∀ j, j < k → ltP (l.getD j (0, 0)) (p1, p2) = true) ∧ Hid (Below w.heap.size w wr) ∧ Hid (wr.heap[w.heap.size]? = some (.cells #[.int .i64 p1, .int .i64 p2] 68 (0, 0)))) (fun i _ => l.length - (intOf i).toNat)
  case atStart => exact ⟨0, Nat.zero_le _, rfl, Lib.hid (fun j hj => by omega), HB, HNp⟩
  case round =>
    clear HB HNp
    obtain ⟨k, hk, rfl, hN, HB, HNp⟩ := hrel
    by_cases hkl : k < l.length
    · obtain ⟨b, off, rfl, hb, ha, ha2⟩ := HC.out k hkl
      have e1 := (HB.out.cell (p := ⟨b, _, none⟩) hb).trans ha
      have e2 := (HB.out.cell (p := ⟨b, _, none⟩) hb).trans ha2
      have hki : (k : Int) < l.length := by omega
      have hk0 : (0 : Int) ≤ k := by omega
      have HKL := Lib.hid hkl
      have hll := HLL.out
      have HLT : Hid (ltP (l.getD k (0, 0)) (p1, p2) = (decide ((l.getD k (0, 0)).1 < p1) || ((l.getD k (0, 0)).1 == p1 && decide ((l.getD k (0, 0)).2 < p2)))) := Lib.hid rfl
      have HNX : Hid (ltP (l.getD k (0, 0)) (p1, p2) = true → ∀ j, j < k + 1 → ltP (l.getD j (0, 0)) (p1, p2) = true) := Lib.hid (fun h j hj => by
        by_cases e : j = k
        · subst e; exact h
        · exact hN.out j (by omega))
      have HEX : Hid (ltP (l.getD k (0, 0)) (p1, p2) = false → AT = k) := Lib.hid (fun h => HAT.out k hk hN.out (fun _ => h))
      obtain ⟨C, hC⟩ : ∃ C, ltP (l.getD k (0, 0)) (p1, p2) = C := ⟨_, rfl⟩
      obtain ⟨⟨x1, x2⟩, hX⟩ : ∃ X, l.getD k (0, 0) = X := ⟨_, rfl⟩
      rw [hC] at HLT HNX HEX
      rw [hX] at e1 e2 HLT
      simp only at e1 e2 HLT
      clear hC hX ha ha2 hb
      have zp0 := cellH HNp.out 0
      have zp1 := cellH HNp.out 1
      simp only [List.getElem?_toArray, List.getElem?_cons_zero, List.getElem?_cons_succ] at zp0 zp1
      cases g1 : decide (x1 < p1)
      · have h1 : ¬ x1 < p1 := of_decide_eq_false g1
        cases g2 : (x1 == p1)
        · skip
          have HATK : Hid (AT = k) := Lib.hid (HEX.out (by rw [HLT.out, g1, g2]; rfl))
          have hll := HLL.out
          have hkc : (k : Int) ≤ (cap : Int) := by omega
          have hkn : (k : Int) ≤ (l.length : Int) := by omega
          have hk0 : (0 : Int) ≤ k := by omega
          have HKL4 : Hid (k ≤ 4000) := Lib.hid (by omega)
          have HL1 : Hid ((l.take k).length ≤ 4000) := Lib.hid (by rw [List.length_take]; omega)
          have HL2 : Hid ((l.drop k).length ≤ 4000) := Lib.hid (by rw [List.length_drop]; omega)
          have HX1 : Hid ((l.take k).length = k) := Lib.hid (by rw [List.length_take]; omega)
          have HHK := Lib.hid hk
          go_wp2_with fail
          go_quiet (fail)
          go_wp2_with fail
          generalize hWD : World.drewN wr _ = wd
          have hwd : Below wr.heap.size wr wd := by rw [← hWD]; exact below_keepN _
          have HW0 := Lib.hid ((Below.refl wd.heap.size wd).drew)
          have HWB := Lib.hid (HB.out.trans (hwd.mono HB.out.size))
          have HNq := Lib.hid ((hwd.block _ (Array.getElem?_eq_some_iff.1 HNp.out).1).trans HNp.out)
          have HRT : Hid (∀ w', Below wd.heap.size wd w' → w'.cell? ⟨w.heap.size, 0, none⟩ = some (.int .i64 p1) ∧ w'.cell? ⟨w.heap.size, 1, none⟩ = some (.int .i64 p2)) := Lib.hid (fun w' h => by
            have h2 := (h.block _ (Array.getElem?_eq_some_iff.1 HNq.out).1).trans HNq.out
            exact ⟨cellH h2 0, cellH h2 1⟩)
          have HP1 : Hid (∀ w', Below wd.heap.size wd w' → P2Row w' (.slice (some ⟨b, off, none⟩) k cap) (l.take k)) := Lib.hid (fun w' h => (HV.out.keep (HWB.out.trans (h.mono HWB.out.size))).cut k HHK.out)
          have HLAST : Hid (∀ (V3 : Value) (w9 : World), w9.ownsRow wd.heap.size 68 2 V3 (k + 1 + (l.drop k).length) ((l.take k).flatMap enc2 ++ [.int .i64 p1, .int .i64 p2] ++ (l.drop k).flatMap enc2) → w9.ownsRow wd.heap.size 68 2 V3 PL.length (PL.flatMap enc2)) := Lib.hid (fun V3 w9 h => by
            have e : PL = l.take k ++ (p1, p2) :: l.drop k := by rw [HPP.out, HATK.out]
            have e1 : PL.length = k + 1 + (l.drop k).length := by rw [e, List.length_append, List.length_cons, HX1.out]; omega
            have e2 : PL.flatMap enc2 = (l.take k).flatMap enc2 ++ [.int .i64 p1, .int .i64 p2] ++ (l.drop k).flatMap enc2 := by rw [e, List.flatMap_append, List.flatMap_cons, List.append_assoc]; rfl
            rw [e1, e2]; exact h)
          clear hWD hwd
          have HP2 : Hid (∀ w', Below wd.heap.size wd w' → P2Row w' (.slice (some ⟨b, off + k * 2, none⟩) (l.length - k) (cap - k)) (l.drop k)) := Lib.hid (fun w' h => (HV.out.keep (HWB.out.trans (h.mono HWB.out.size))).rest k HKL.out _)
          have hck : ¬ cap = k := by have := HKL.out; omega
          have hkl2 := HKL.out
          obtain ⟨ls1, hl1⟩ : ∃ q, l.take k = q := ⟨_, rfl⟩
          obtain ⟨ls2, hl2⟩ : ∃ q, l.drop k = q := ⟨_, rfl⟩
          obtain ⟨n2, hn2⟩ : ∃ q, ls2.length = q := ⟨_, rfl⟩
          obtain ⟨X1, hXX1⟩ : ∃ q, ls1.flatMap enc2 = q := ⟨_, rfl⟩
          obtain ⟨X2, hXX2⟩ : ∃ q, ls2.flatMap enc2 = q := ⟨_, rfl⟩
          rw [hl1] at HL1 HX1 HP1 HLAST
          rw [hl2] at HL2 HP2 HLAST
          rw [hn2, hXX1, hXX2] at HLAST
          have HXX1 := Lib.hid hXX1
          have HXX2 := Lib.hid hXX2
          have HN2 := Lib.hid hn2
          clear hl1 hl2 hn2 hXX1 hXX2
          refine wp_region_invtail 12 (by kernel_rfl) (by kernel_rfl) (by kernel_rfl) (by kernel_rfl) (of_decide_eq_true (by kernel_rfl)) (by kernel_rfl) (PutInv wd w.heap.size k n2 p1 p2 (.slice (some ⟨b, off, none⟩) l.length cap) (.slice (some ⟨b, off, none⟩) k cap) ((.slice (some ⟨b, off + k * 2, none⟩) (l.length - k) (cap - k))) X1 X2 _ _ _ _ _ _ _ _ _ _ _ _ _ _ _ _ _ _ _ _ _ _ _ _ _ _ _ _ _ _ _ _ _ _ _ _ _ _ _ _ _ _ _ _ _ _ _ _ _ _ _) ⟨false, false, false, false, false, false, false, false, false, false, false, false, 0, 0, undef, undef, undef, rfl, rfl, HW0.out, by simp, by simp, by simp, by simp, by simp, by simp, by simp, by simp⟩ ?hend ?hstep
          case hstep =>
            rintro listed a w' i ⟨l0, l1, l2, l3, l4, l5, l6, l7, l8, l9, l10, l11, A, B, V, V2, V3, rfl, rfl, hb, hA, hV, hV2, hV3, hB, k4, k7, k11⟩ hi hin
            obtain ⟨hf, o', ho', hp⟩ := mem_ready.1 hi
            clear hi
            obtain ⟨y0, y1⟩ := HRT.out w' hb
            obtain rfl | rfl | rfl | rfl | rfl | rfl | rfl | rfl | rfl | rfl | rfl | rfl : i = 0 ∨ i = 1 ∨ i = 2 ∨ i = 3 ∨ i = 4 ∨ i = 5 ∨ i = 6 ∨ i = 7 ∨ i = 8 ∨ i = 9 ∨ i = 10 ∨ i = 11 := by omega
            · obtain rfl : l0 = false := by simpa using hf
              obtain rfl : l4 = false := by
                cases l4 with
                | false => rfl
                | true => exact absurd (k4 rfl) (by decide)
              clear hp ho'
              unfold wpOp
              simp only [pkIf_true]
              go_simp
              exact .inl ⟨true, l1, l2, l3, false, l5, l6, l7, l8, l9, l10, l11, w'.heap.size, B, V, V2, V3, rfl, rfl, hb.alloc hb.size _, (fun _ _ => World.ownsRow_made w' #[] 0 hb.size (by unfold maxLen; omega) (by simp)), (fun h => by cases h), (fun h => by cases (k7 h).1), (fun h => by cases (k7 (k11 h)).1), (fun h1 h2 => ⟨(gNe _ _ _ (Nat.ne_of_lt (Array.getElem?_eq_some_iff.1 (hB h1 h2).1).1)).trans (hB h1 h2).1, (fun _ _ => (Nat.ne_of_lt (Array.getElem?_eq_some_iff.1 (hB h1 h2).1).1).symm), (fun h => by cases h)⟩), (fun h => by cases h), (fun h => by cases (k7 h).1), k11⟩
            · obtain rfl : l1 = false := by simpa using hf
              clear hp ho'
              unfold wpOp
              simp only [pkIf_true]
              go_simp
              exact .inl ⟨l0, true, l2, l3, l4, l5, l6, l7, l8, l9, l10, l11, A, B, V, V2, V3, rfl, rfl, hb, hA, hV, hV2, hV3, hB, k4, k7, k11⟩
            · obtain rfl : l2 = false := by simpa using hf
              clear hp ho'
              unfold wpOp
              simp only [pkIf_true]
              go_simp
              exact .inl ⟨l0, l1, true, l3, l4, l5, l6, l7, l8, l9, l10, l11, A, B, V, V2, V3, rfl, rfl, hb, hA, hV, hV2, hV3, hB, k4, k7, k11⟩
            · obtain rfl : l3 = false := by simpa using hf
              cases ho'
              obtain rfl : l1 = true := by simpa using hp ⟨1, .data⟩ (by simp) rfl
              obtain rfl : l2 = true := by simpa using hp ⟨2, .data⟩ (by simp) rfl
              clear hp
              unfold wpOp
              simp only [pkIf_true]
              go_simp
              exact .inl ⟨l0, true, true, true, l4, l5, l6, l7, l8, l9, l10, l11, A, B, V, V2, V3, rfl, rfl, hb, hA, hV, hV2, hV3, hB, k4, k7, k11⟩
            · obtain rfl : l4 = false := by simpa using hf
              obtain rfl : l7 = false := by
                cases l7 with
                | false => rfl
                | true => exact absurd ((k7 rfl).1) (by decide)
              cases ho'
              obtain rfl : l0 = true := by simpa using hp ⟨0, .data⟩ (by simp) rfl
              obtain rfl : l3 = true := by simpa using hp ⟨3, .data⟩ (by simp) rfl
              clear hp
              unfold wpOp
              simp only [pkIf_true, List.getElem?_toArray, List.getElem?_cons_succ, List.getElem?_cons_zero]
              refine ifWanted rfl (pair_append _ _ rfl wd.heap.size (.slice (some ⟨A, 0, none⟩) 0 0) 0 [] rfl (hA rfl rfl) (.slice (some ⟨b, off, none⟩) k cap) ls1 rfl (HP1.out w' hb) HL1.out (by omega) hb.size ?_)
              intro v' w9 hown hgr hat
              rw [Nat.zero_add, List.nil_append] at hown
              refine ⟨true, l1, l2, true, true, l5, l6, false, l8, l9, l10, l11, A, B, v', V2, V3, rfl, rfl, hb.grown hgr hb.size (fun j e => (World.ownsRow.lt (hA rfl rfl) j e).1), (fun _ h => by cases h), (fun _ _ => by rw [HX1.out, HXX1.out] at hown; exact hown), (fun h => by cases h), (fun h => by cases (k11 h)), (fun h1 _ => ⟨(hgr.block _ (Array.getElem?_eq_some_iff.1 (hB h1 rfl).1).1 (fun e => (hB h1 rfl).2.1 rfl rfl (by simpa [Value.ownBlock] using e.symm))).trans (hB h1 rfl).1, (fun _ h => by cases h), (fun _ e => ?_)⟩), (fun _ => rfl), (fun h => by cases h), k11⟩
              rcases hat with q | q
              · rw [q] at e; exact (hB h1 rfl).2.1 rfl rfl (by simpa [Value.ownBlock] using e)
              · rw [q] at e; cases e; exact Nat.lt_irrefl _ (Array.getElem?_eq_some_iff.1 (hB h1 rfl).1).1
            · obtain rfl : l5 = false := by simpa using hf
              clear hp ho'
              unfold wpOp
              simp only [pkIf_true]
              go_simp
              exact .inl ⟨l0, l1, l2, l3, l4, true, l6, l7, l8, l9, l10, l11, A, B, V, V2, V3, rfl, rfl, hb, hA, hV, hV2, hV3, hB, k4, k7, k11⟩
            · obtain rfl : l6 = false := by simpa using hf
              obtain rfl : l7 = false := by
                cases l7 with
                | false => rfl
                | true => exact absurd ((k7 rfl).2) (by decide)
              cases ho'
              obtain rfl : l5 = true := by simpa using hp ⟨5, .data⟩ (by simp) rfl
              clear hp
              unfold wpOp
              simp only [pkIf_true]
              go_simp
              exact .inl ⟨l0, l1, l2, l3, l4, true, true, false, l8, l9, l10, l11, A, w'.heap.size, V, V2, V3, rfl, rfl, hb.alloc hb.size _, (fun h1 h2 => (hA h1 h2).alloc _), (fun h1 h2 => (hV h1 h2).alloc _), (fun h => by cases h), (fun h => by cases (k11 h)), (fun _ _ => ⟨heap_alloc_new _ _, (fun h1 h2 => Nat.ne_of_lt (World.ownsRow.lt (hA h1 h2) A rfl).2), (fun h1 e => Nat.lt_irrefl _ (World.ownsRow.lt (hV h1 rfl) _ e).2)⟩), k4, (fun h => by cases h), k11⟩
            · obtain rfl : l7 = false := by simpa using hf
              obtain rfl : l11 = false := by
                cases l11 with
                | false => rfl
                | true => exact absurd (k11 rfl) (by decide)
              cases ho'
              obtain rfl : l4 = true := by simpa using hp ⟨4, .data⟩ (by simp) rfl
              obtain rfl : l6 = true := by simpa using hp ⟨6, .data⟩ (by simp) rfl
              clear hp
              unfold wpOp
              simp only [pkIf_true, List.getElem?_toArray, List.getElem?_cons_succ, List.getElem?_cons_zero]
              obtain ⟨f1, _, f3⟩ := hB rfl rfl
              refine ifWanted rfl (append_at_wp _ _ 60 rfl wd.heap.size 68 i0 (.agg #[.int .i64 0, .int .i64 0]) 2 16 Tryz.underlying60 hi0 hz0 hz1 hz2 rfl (by decide) V k X1 rfl (hV rfl rfl) ⟨B, 0, none⟩ 1 1 [.int .i64 p1, .int .i64 p2] rfl rfl (fun j u hu => cell_add f1 j u hu) (by simp [Value.oneCell']) (by unfold maxLen; have := HKL4.out; omega) (by have := HKL4.out; omega) hb.size ?_)
              intro v' w9 hown hgr hat
              exact ⟨l0, l1, l2, l3, true, l5, true, true, l8, l9, l10, false, A, B, V, v', V3, rfl, rfl, hb.grown hgr hb.size (fun j e => (World.ownsRow.lt (hV rfl rfl) j e).1), (fun _ h => by cases h), (fun _ h => by cases h), (fun _ _ => hown), (fun h => by cases h), (fun _ h => by cases h), (fun _ => by first | rfl | exact k4 rfl), (fun _ => ⟨rfl, rfl⟩), (fun h => by cases h)⟩
            · obtain rfl : l8 = false := by simpa using hf
              clear hp ho'
              unfold wpOp
              simp only [pkIf_true]
              go_simp
              exact .inl ⟨l0, l1, l2, l3, l4, l5, l6, l7, true, l9, l10, l11, A, B, V, V2, V3, rfl, rfl, hb, hA, hV, hV2, hV3, hB, k4, k7, k11⟩
            · obtain rfl : l9 = false := by simpa using hf
              clear hp ho'
              unfold wpOp
              simp only [pkIf_true]
              go_simp
              exact .inl ⟨l0, l1, l2, l3, l4, l5, l6, l7, l8, true, l10, l11, A, B, V, V2, V3, rfl, rfl, hb, hA, hV, hV2, hV3, hB, k4, k7, k11⟩
            · obtain rfl : l10 = false := by simpa using hf
              cases ho'
              obtain rfl : l8 = true := by simpa using hp ⟨8, .data⟩ (by simp) rfl
              obtain rfl : l9 = true := by simpa using hp ⟨9, .data⟩ (by simp) rfl
              clear hp
              unfold wpOp
              simp only [pkIf_true]
              go_simp
              exact .inl ⟨l0, l1, l2, l3, l4, l5, l6, l7, true, true, true, l11, A, B, V, V2, V3, rfl, rfl, hb, hA, hV, hV2, hV3, hB, k4, k7, k11⟩
            · obtain rfl : l11 = false := by simpa using hf
              cases ho'
              obtain rfl : l7 = true := by simpa using hp ⟨7, .data⟩ (by simp) rfl
              obtain rfl : l10 = true := by simpa using hp ⟨10, .data⟩ (by simp) rfl
              clear hp
              unfold wpOp
              simp only [pkIf_true, List.getElem?_toArray, List.getElem?_cons_succ, List.getElem?_cons_zero]
              refine ifWanted rfl (pair_append _ _ rfl wd.heap.size V2 (k + 1) (X1 ++ [.int .i64 p1, .int .i64 p2]) rfl (hV2 rfl rfl) (.slice (some ⟨b, off + k * 2, none⟩) (l.length - k) (cap - k)) ls2 rfl (HP2.out w' hb) HL2.out (by have := HKL4.out; omega) hb.size ?_)
              intro v' w9 hown hgr hat
              exact ⟨l0, l1, l2, l3, l4, l5, l6, true, l8, l9, true, true, A, B, V, V2, v', rfl, rfl, hb.grown hgr hb.size (fun j e => (World.ownsRow.lt (hV2 rfl rfl) j e).1), (fun h1 h2 => by rw [(k7 rfl).1] at h2; cases h2), (fun h1 h2 => by cases h2), (fun _ h => by cases h), (fun _ => by rw [HN2.out, HXX2.out] at hown; exact hown), (fun h1 h2 => by cases h2), k4, k7, (fun _ => rfl)⟩
          case hend =>
            rintro listed a w9 ⟨l0, l1, l2, l3, l4, l5, l6, l7, l8, l9, l10, l11, A, B, V, V2, V3, rfl, rfl, hb, hA, hV, hV2, hV3, hB, k4, k7, k11⟩ hall
            have hal : l0 = true ∧ l1 = true ∧ l2 = true ∧ l3 = true ∧ l4 = true ∧ l5 = true ∧ l6 = true ∧ l7 = true ∧ l8 = true ∧ l9 = true ∧ l10 = true ∧ l11 = true := ⟨by simpa using hall 0 (by decide), by simpa using hall 1 (by decide), by simpa using hall 2 (by decide), by simpa using hall 3 (by decide), by simpa using hall 4 (by decide), by simpa using hall 5 (by decide), by simpa using hall 6 (by decide), by simpa using hall 7 (by decide), by simpa using hall 8 (by decide), by simpa using hall 9 (by decide), by simpa using hall 10 (by decide), by simpa using hall 11 (by decide)⟩
            obtain ⟨rfl, rfl, rfl, rfl, rfl, rfl, rfl, rfl, rfl, rfl, rfl, rfl⟩ := hal
            have HB9 := Lib.hid hb
            have HO9 := Lib.hid (hV3 rfl)
            simp only [pkIf_true, List.drop_succ_cons, List.drop_zero]
            clear hall hb hA hV hV2 hV3 hB k4 k7 k11
            go_wp2_with fail
            go_ret
            exact ⟨V3, rfl, P2Row.of_own (HLAST.out V3 w9 HO9.out), P2Cap.of_own HO9.out, HWB.out.trans (HB9.out.mono HWB.out.size)⟩
        · cases g3 : decide (x2 < p2)
          · have h3 : ¬ x2 < p2 := of_decide_eq_false g3
            have HATK : Hid (AT = k) := Lib.hid (HEX.out (by rw [HLT.out, g1, g2, g3]; rfl))
            have hll := HLL.out
            have hkc : (k : Int) ≤ (cap : Int) := by omega
            have hkn : (k : Int) ≤ (l.length : Int) := by omega
            have hk0 : (0 : Int) ≤ k := by omega
            have HKL4 : Hid (k ≤ 4000) := Lib.hid (by omega)
            have HL1 : Hid ((l.take k).length ≤ 4000) := Lib.hid (by rw [List.length_take]; omega)
            have HL2 : Hid ((l.drop k).length ≤ 4000) := Lib.hid (by rw [List.length_drop]; omega)
            have HX1 : Hid ((l.take k).length = k) := Lib.hid (by rw [List.length_take]; omega)
            have HHK := Lib.hid hk
            go_wp2_with fail
            go_quiet (fail)
            go_wp2_with fail
            generalize hWD : World.drewN wr _ = wd
            have hwd : Below wr.heap.size wr wd := by rw [← hWD]; exact below_keepN _
            have HW0 := Lib.hid ((Below.refl wd.heap.size wd).drew)
            have HWB := Lib.hid (HB.out.trans (hwd.mono HB.out.size))
            have HNq := Lib.hid ((hwd.block _ (Array.getElem?_eq_some_iff.1 HNp.out).1).trans HNp.out)
            have HRT : Hid (∀ w', Below wd.heap.size wd w' → w'.cell? ⟨w.heap.size, 0, none⟩ = some (.int .i64 p1) ∧ w'.cell? ⟨w.heap.size, 1, none⟩ = some (.int .i64 p2)) := Lib.hid (fun w' h => by
              have h2 := (h.block _ (Array.getElem?_eq_some_iff.1 HNq.out).1).trans HNq.out
              exact ⟨cellH h2 0, cellH h2 1⟩)
            have HP1 : Hid (∀ w', Below wd.heap.size wd w' → P2Row w' (.slice (some ⟨b, off, none⟩) k cap) (l.take k)) := Lib.hid (fun w' h => (HV.out.keep (HWB.out.trans (h.mono HWB.out.size))).cut k HHK.out)
            have HLAST : Hid (∀ (V3 : Value) (w9 : World), w9.ownsRow wd.heap.size 68 2 V3 (k + 1 + (l.drop k).length) ((l.take k).flatMap enc2 ++ [.int .i64 p1, .int .i64 p2] ++ (l.drop k).flatMap enc2) → w9.ownsRow wd.heap.size 68 2 V3 PL.length (PL.flatMap enc2)) := Lib.hid (fun V3 w9 h => by
              have e : PL = l.take k ++ (p1, p2) :: l.drop k := by rw [HPP.out, HATK.out]
              have e1 : PL.length = k + 1 + (l.drop k).length := by rw [e, List.length_append, List.length_cons, HX1.out]; omega
              have e2 : PL.flatMap enc2 = (l.take k).flatMap enc2 ++ [.int .i64 p1, .int .i64 p2] ++ (l.drop k).flatMap enc2 := by rw [e, List.flatMap_append, List.flatMap_cons, List.append_assoc]; rfl
              rw [e1, e2]; exact h)
            clear hWD hwd
            have HP2 : Hid (∀ w', Below wd.heap.size wd w' → P2Row w' (.slice (some ⟨b, off + k * 2, none⟩) (l.length - k) (cap - k)) (l.drop k)) := Lib.hid (fun w' h => (HV.out.keep (HWB.out.trans (h.mono HWB.out.size))).rest k HKL.out _)
            have hck : ¬ cap = k := by have := HKL.out; omega
            have hkl2 := HKL.out
            obtain ⟨ls1, hl1⟩ : ∃ q, l.take k = q := ⟨_, rfl⟩
            obtain ⟨ls2, hl2⟩ : ∃ q, l.drop k = q := ⟨_, rfl⟩
            obtain ⟨n2, hn2⟩ : ∃ q, ls2.length = q := ⟨_, rfl⟩
            obtain ⟨X1, hXX1⟩ : ∃ q, ls1.flatMap enc2 = q := ⟨_, rfl⟩
            obtain ⟨X2, hXX2⟩ : ∃ q, ls2.flatMap enc2 = q := ⟨_, rfl⟩
            rw [hl1] at HL1 HX1 HP1 HLAST
            rw [hl2] at HL2 HP2 HLAST
            rw [hn2, hXX1, hXX2] at HLAST
            have HXX1 := Lib.hid hXX1
            have HXX2 := Lib.hid hXX2
            have HN2 := Lib.hid hn2
            clear hl1 hl2 hn2 hXX1 hXX2
            refine wp_region_invtail 12 (by kernel_rfl) (by kernel_rfl) (by kernel_rfl) (by kernel_rfl) (of_decide_eq_true (by kernel_rfl)) (by kernel_rfl) (PutInv wd w.heap.size k n2 p1 p2 (.slice (some ⟨b, off, none⟩) l.length cap) (.slice (some ⟨b, off, none⟩) k cap) ((.slice (some ⟨b, off + k * 2, none⟩) (l.length - k) (cap - k))) X1 X2 _ _ _ _ _ _ _ _ _ _ _ _ _ _ _ _ _ _ _ _ _ _ _ _ _ _ _ _ _ _ _ _ _ _ _ _ _ _ _ _ _ _ _ _ _ _ _ _ _ _ _) ⟨false, false, false, false, false, false, false, false, false, false, false, false, 0, 0, undef, undef, undef, rfl, rfl, HW0.out, by simp, by simp, by simp, by simp, by simp, by simp, by simp, by simp⟩ ?hend ?hstep
            case hstep =>
              rintro listed a w' i ⟨l0, l1, l2, l3, l4, l5, l6, l7, l8, l9, l10, l11, A, B, V, V2, V3, rfl, rfl, hb, hA, hV, hV2, hV3, hB, k4, k7, k11⟩ hi hin
              obtain ⟨hf, o', ho', hp⟩ := mem_ready.1 hi
              clear hi
              obtain ⟨y0, y1⟩ := HRT.out w' hb
              obtain rfl | rfl | rfl | rfl | rfl | rfl | rfl | rfl | rfl | rfl | rfl | rfl : i = 0 ∨ i = 1 ∨ i = 2 ∨ i = 3 ∨ i = 4 ∨ i = 5 ∨ i = 6 ∨ i = 7 ∨ i = 8 ∨ i = 9 ∨ i = 10 ∨ i = 11 := by omega
              · obtain rfl : l0 = false := by simpa using hf
                obtain rfl : l4 = false := by
                  cases l4 with
                  | false => rfl
                  | true => exact absurd (k4 rfl) (by decide)
                clear hp ho'
                unfold wpOp
                simp only [pkIf_true]
                go_simp
                exact .inl ⟨true, l1, l2, l3, false, l5, l6, l7, l8, l9, l10, l11, w'.heap.size, B, V, V2, V3, rfl, rfl, hb.alloc hb.size _, (fun _ _ => World.ownsRow_made w' #[] 0 hb.size (by unfold maxLen; omega) (by simp)), (fun h => by cases h), (fun h => by cases (k7 h).1), (fun h => by cases (k7 (k11 h)).1), (fun h1 h2 => ⟨(gNe _ _ _ (Nat.ne_of_lt (Array.getElem?_eq_some_iff.1 (hB h1 h2).1).1)).trans (hB h1 h2).1, (fun _ _ => (Nat.ne_of_lt (Array.getElem?_eq_some_iff.1 (hB h1 h2).1).1).symm), (fun h => by cases h)⟩), (fun h => by cases h), (fun h => by cases (k7 h).1), k11⟩
              · obtain rfl : l1 = false := by simpa using hf
                clear hp ho'
                unfold wpOp
                simp only [pkIf_true]
                go_simp
                exact .inl ⟨l0, true, l2, l3, l4, l5, l6, l7, l8, l9, l10, l11, A, B, V, V2, V3, rfl, rfl, hb, hA, hV, hV2, hV3, hB, k4, k7, k11⟩
              · obtain rfl : l2 = false := by simpa using hf
                clear hp ho'
                unfold wpOp
                simp only [pkIf_true]
                go_simp
                exact .inl ⟨l0, l1, true, l3, l4, l5, l6, l7, l8, l9, l10, l11, A, B, V, V2, V3, rfl, rfl, hb, hA, hV, hV2, hV3, hB, k4, k7, k11⟩
              · obtain rfl : l3 = false := by simpa using hf
                cases ho'
                obtain rfl : l1 = true := by simpa using hp ⟨1, .data⟩ (by simp) rfl
                obtain rfl : l2 = true := by simpa using hp ⟨2, .data⟩ (by simp) rfl
                clear hp
                unfold wpOp
                simp only [pkIf_true]
                go_simp
                exact .inl ⟨l0, true, true, true, l4, l5, l6, l7, l8, l9, l10, l11, A, B, V, V2, V3, rfl, rfl, hb, hA, hV, hV2, hV3, hB, k4, k7, k11⟩
              · obtain rfl : l4 = false := by simpa using hf
                obtain rfl : l7 = false := by
                  cases l7 with
                  | false => rfl
                  | true => exact absurd ((k7 rfl).1) (by decide)
                cases ho'
                obtain rfl : l0 = true := by simpa using hp ⟨0, .data⟩ (by simp) rfl
                obtain rfl : l3 = true := by simpa using hp ⟨3, .data⟩ (by simp) rfl
                clear hp
                unfold wpOp
                simp only [pkIf_true, List.getElem?_toArray, List.getElem?_cons_succ, List.getElem?_cons_zero]
                refine ifWanted rfl (pair_append _ _ rfl wd.heap.size (.slice (some ⟨A, 0, none⟩) 0 0) 0 [] rfl (hA rfl rfl) (.slice (some ⟨b, off, none⟩) k cap) ls1 rfl (HP1.out w' hb) HL1.out (by omega) hb.size ?_)
                intro v' w9 hown hgr hat
                rw [Nat.zero_add, List.nil_append] at hown
                refine ⟨true, l1, l2, true, true, l5, l6, false, l8, l9, l10, l11, A, B, v', V2, V3, rfl, rfl, hb.grown hgr hb.size (fun j e => (World.ownsRow.lt (hA rfl rfl) j e).1), (fun _ h => by cases h), (fun _ _ => by rw [HX1.out, HXX1.out] at hown; exact hown), (fun h => by cases h), (fun h => by cases (k11 h)), (fun h1 _ => ⟨(hgr.block _ (Array.getElem?_eq_some_iff.1 (hB h1 rfl).1).1 (fun e => (hB h1 rfl).2.1 rfl rfl (by simpa [Value.ownBlock] using e.symm))).trans (hB h1 rfl).1, (fun _ h => by cases h), (fun _ e => ?_)⟩), (fun _ => rfl), (fun h => by cases h), k11⟩
                rcases hat with q | q
                · rw [q] at e; exact (hB h1 rfl).2.1 rfl rfl (by simpa [Value.ownBlock] using e)
                · rw [q] at e; cases e; exact Nat.lt_irrefl _ (Array.getElem?_eq_some_iff.1 (hB h1 rfl).1).1
              · obtain rfl : l5 = false := by simpa using hf
                clear hp ho'
                unfold wpOp
                simp only [pkIf_true]
                go_simp
                exact .inl ⟨l0, l1, l2, l3, l4, true, l6, l7, l8, l9, l10, l11, A, B, V, V2, V3, rfl, rfl, hb, hA, hV, hV2, hV3, hB, k4, k7, k11⟩
              · obtain rfl : l6 = false := by simpa using hf
                obtain rfl : l7 = false := by
                  cases l7 with
                  | false => rfl
                  | true => exact absurd ((k7 rfl).2) (by decide)
                cases ho'
                obtain rfl : l5 = true := by simpa using hp ⟨5, .data⟩ (by simp) rfl
                clear hp
                unfold wpOp
                simp only [pkIf_true]
                go_simp
                exact .inl ⟨l0, l1, l2, l3, l4, true, true, false, l8, l9, l10, l11, A, w'.heap.size, V, V2, V3, rfl, rfl, hb.alloc hb.size _, (fun h1 h2 => (hA h1 h2).alloc _), (fun h1 h2 => (hV h1 h2).alloc _), (fun h => by cases h), (fun h => by cases (k11 h)), (fun _ _ => ⟨heap_alloc_new _ _, (fun h1 h2 => Nat.ne_of_lt (World.ownsRow.lt (hA h1 h2) A rfl).2), (fun h1 e => Nat.lt_irrefl _ (World.ownsRow.lt (hV h1 rfl) _ e).2)⟩), k4, (fun h => by cases h), k11⟩
              · obtain rfl : l7 = false := by simpa using hf
                obtain rfl : l11 = false := by
                  cases l11 with
                  | false => rfl
                  | true => exact absurd (k11 rfl) (by decide)
                cases ho'
                obtain rfl : l4 = true := by simpa using hp ⟨4, .data⟩ (by simp) rfl
                obtain rfl : l6 = true := by simpa using hp ⟨6, .data⟩ (by simp) rfl
                clear hp
                unfold wpOp
                simp only [pkIf_true, List.getElem?_toArray, List.getElem?_cons_succ, List.getElem?_cons_zero]
                obtain ⟨f1, _, f3⟩ := hB rfl rfl
                refine ifWanted rfl (append_at_wp _ _ 60 rfl wd.heap.size 68 i0 (.agg #[.int .i64 0, .int .i64 0]) 2 16 Tryz.underlying60 hi0 hz0 hz1 hz2 rfl (by decide) V k X1 rfl (hV rfl rfl) ⟨B, 0, none⟩ 1 1 [.int .i64 p1, .int .i64 p2] rfl rfl (fun j u hu => cell_add f1 j u hu) (by simp [Value.oneCell']) (by unfold maxLen; have := HKL4.out; omega) (by have := HKL4.out; omega) hb.size ?_)
                intro v' w9 hown hgr hat
                exact ⟨l0, l1, l2, l3, true, l5, true, true, l8, l9, l10, false, A, B, V, v', V3, rfl, rfl, hb.grown hgr hb.size (fun j e => (World.ownsRow.lt (hV rfl rfl) j e).1), (fun _ h => by cases h), (fun _ h => by cases h), (fun _ _ => hown), (fun h => by cases h), (fun _ h => by cases h), (fun _ => by first | rfl | exact k4 rfl), (fun _ => ⟨rfl, rfl⟩), (fun h => by cases h)⟩
              · obtain rfl : l8 = false := by simpa using hf
                clear hp ho'
                unfold wpOp
                simp only [pkIf_true]
                go_simp
                exact .inl ⟨l0, l1, l2, l3, l4, l5, l6, l7, true, l9, l10, l11, A, B, V, V2, V3, rfl, rfl, hb, hA, hV, hV2, hV3, hB, k4, k7, k11⟩
              · obtain rfl : l9 = false := by simpa using hf
                clear hp ho'
                unfold wpOp
                simp only [pkIf_true]
                go_simp
                exact .inl ⟨l0, l1, l2, l3, l4, l5, l6, l7, l8, true, l10, l11, A, B, V, V2, V3, rfl, rfl, hb, hA, hV, hV2, hV3, hB, k4, k7, k11⟩
              · obtain rfl : l10 = false := by simpa using hf
                cases ho'
                obtain rfl : l8 = true := by simpa using hp ⟨8, .data⟩ (by simp) rfl
                obtain rfl : l9 = true := by simpa using hp ⟨9, .data⟩ (by simp) rfl
                clear hp
                unfold wpOp
                simp only [pkIf_true]
                go_simp
                exact .inl ⟨l0, l1, l2, l3, l4, l5, l6, l7, true, true, true, l11, A, B, V, V2, V3, rfl, rfl, hb, hA, hV, hV2, hV3, hB, k4, k7, k11⟩
              · obtain rfl : l11 = false := by simpa using hf
                cases ho'
                obtain rfl : l7 = true := by simpa using hp ⟨7, .data⟩ (by simp) rfl
                obtain rfl : l10 = true := by simpa using hp ⟨10, .data⟩ (by simp) rfl
                clear hp
                unfold wpOp
                simp only [pkIf_true, List.getElem?_toArray, List.getElem?_cons_succ, List.getElem?_cons_zero]
                refine ifWanted rfl (pair_append _ _ rfl wd.heap.size V2 (k + 1) (X1 ++ [.int .i64 p1, .int .i64 p2]) rfl (hV2 rfl rfl) (.slice (some ⟨b, off + k * 2, none⟩) (l.length - k) (cap - k)) ls2 rfl (HP2.out w' hb) HL2.out (by have := HKL4.out; omega) hb.size ?_)
                intro v' w9 hown hgr hat
                exact ⟨l0, l1, l2, l3, l4, l5, l6, true, l8, l9, true, true, A, B, V, V2, v', rfl, rfl, hb.grown hgr hb.size (fun j e => (World.ownsRow.lt (hV2 rfl rfl) j e).1), (fun h1 h2 => by rw [(k7 rfl).1] at h2; cases h2), (fun h1 h2 => by cases h2), (fun _ h => by cases h), (fun _ => by rw [HN2.out, HXX2.out] at hown; exact hown), (fun h1 h2 => by cases h2), k4, k7, (fun _ => rfl)⟩
            case hend =>
              rintro listed a w9 ⟨l0, l1, l2, l3, l4, l5, l6, l7, l8, l9, l10, l11, A, B, V, V2, V3, rfl, rfl, hb, hA, hV, hV2, hV3, hB, k4, k7, k11⟩ hall
              have hal : l0 = true ∧ l1 = true ∧ l2 = true ∧ l3 = true ∧ l4 = true ∧ l5 = true ∧ l6 = true ∧ l7 = true ∧ l8 = true ∧ l9 = true ∧ l10 = true ∧ l11 = true := ⟨by simpa using hall 0 (by decide), by simpa using hall 1 (by decide), by simpa using hall 2 (by decide), by simpa using hall 3 (by decide), by simpa using hall 4 (by decide), by simpa using hall 5 (by decide), by simpa using hall 6 (by decide), by simpa using hall 7 (by decide), by simpa using hall 8 (by decide), by simpa using hall 9 (by decide), by simpa using hall 10 (by decide), by simpa using hall 11 (by decide)⟩
              obtain ⟨rfl, rfl, rfl, rfl, rfl, rfl, rfl, rfl, rfl, rfl, rfl, rfl⟩ := hal
              have HB9 := Lib.hid hb
              have HO9 := Lib.hid (hV3 rfl)
              simp only [pkIf_true, List.drop_succ_cons, List.drop_zero]
              clear hall hb hA hV hV2 hV3 hB k4 k7 k11
              go_wp2_with fail
              go_ret
              exact ⟨V3, rfl, P2Row.of_own (HLAST.out V3 w9 HO9.out), P2Cap.of_own HO9.out, HWB.out.trans (HB9.out.mono HWB.out.size)⟩
          · have h3 : x2 < p2 := of_decide_eq_true g3
            have HN2 := Lib.hid (HNX.out (by rw [HLT.out, g1, g2, g3]; rfl))
            go_wp2_with fail
            go_quiet (fail)
            go_wp2_with fail
            go_roundw
            case rel => exact ⟨k + 1, HKL.out, by go_num, HN2, Lib.hid (belowN HB.out _), HNp⟩
            case measure => have := HKL.out; simp [intOf]; omega
      · have h1 : x1 < p1 := of_decide_eq_true g1
        have HN2 := Lib.hid (HNX.out (by rw [HLT.out, g1]; rfl))
        go_wp2_with fail
        go_quiet (fail)
        go_wp2_with fail
        go_roundw
        case rel => exact ⟨k + 1, HKL.out, by go_num, HN2, Lib.hid (belowN HB.out _), HNp⟩
        case measure => have := HKL.out; simp [intOf]; omega
    · have HATK : Hid (AT = k) := Lib.hid (HAT.out k hk hN.out (fun h => absurd h hkl))
      have HKL0 := Lib.hid (show l.length ≤ k by omega)
      cases la with
      | none =>
        have hll := HLL.out
        have hkc : (k : Int) ≤ (cap : Int) := by omega
        have hkn : (k : Int) ≤ (l.length : Int) := by omega
        have hk0 : (0 : Int) ≤ k := by omega
        have HKL4 : Hid (k ≤ 4000) := Lib.hid (by omega)
        have HL1 : Hid ((l.take k).length ≤ 4000) := Lib.hid (by rw [List.length_take]; omega)
        have HL2 : Hid ((l.drop k).length ≤ 4000) := Lib.hid (by rw [List.length_drop]; omega)
        have HX1 : Hid ((l.take k).length = k) := Lib.hid (by rw [List.length_take]; omega)
        have HHK := Lib.hid hk
        go_wp2_with fail
        go_quiet (fail)
        go_wp2_with fail
        generalize hWD : World.drewN wr _ = wd
        have hwd : Below wr.heap.size wr wd := by rw [← hWD]; exact below_keepN _
        have HW0 := Lib.hid ((Below.refl wd.heap.size wd).drew)
        have HWB := Lib.hid (HB.out.trans (hwd.mono HB.out.size))
        have HNq := Lib.hid ((hwd.block _ (Array.getElem?_eq_some_iff.1 HNp.out).1).trans HNp.out)
        have HRT : Hid (∀ w', Below wd.heap.size wd w' → w'.cell? ⟨w.heap.size, 0, none⟩ = some (.int .i64 p1) ∧ w'.cell? ⟨w.heap.size, 1, none⟩ = some (.int .i64 p2)) := Lib.hid (fun w' h => by
          have h2 := (h.block _ (Array.getElem?_eq_some_iff.1 HNq.out).1).trans HNq.out
          exact ⟨cellH h2 0, cellH h2 1⟩)
        have HP1 : Hid (∀ w', Below wd.heap.size wd w' → P2Row w' (.slice none k cap) (l.take k)) := Lib.hid (fun w' h => (HV.out.keep (HWB.out.trans (h.mono HWB.out.size))).cut k HHK.out)
        have HLAST : Hid (∀ (V3 : Value) (w9 : World), w9.ownsRow wd.heap.size 68 2 V3 (k + 1 + (l.drop k).length) ((l.take k).flatMap enc2 ++ [.int .i64 p1, .int .i64 p2] ++ (l.drop k).flatMap enc2) → w9.ownsRow wd.heap.size 68 2 V3 PL.length (PL.flatMap enc2)) := Lib.hid (fun V3 w9 h => by
          have e : PL = l.take k ++ (p1, p2) :: l.drop k := by rw [HPP.out, HATK.out]
          have e1 : PL.length = k + 1 + (l.drop k).length := by rw [e, List.length_append, List.length_cons, HX1.out]; omega
          have e2 : PL.flatMap enc2 = (l.take k).flatMap enc2 ++ [.int .i64 p1, .int .i64 p2] ++ (l.drop k).flatMap enc2 := by rw [e, List.flatMap_append, List.flatMap_cons, List.append_assoc]; rfl
          rw [e1, e2]; exact h)
        clear hWD hwd
        have HP2 : Hid (∀ w', Below wd.heap.size wd w' → P2Row w' (.slice none (l.length - k) (cap - k)) (l.drop k)) := Lib.hid (fun w' h => .inl ⟨_, _, by rw [show l.length - k = 0 by have := HKL0.out; omega], List.drop_eq_nil_of_le (by have := HKL0.out; omega)⟩)
        obtain ⟨ls1, hl1⟩ : ∃ q, l.take k = q := ⟨_, rfl⟩
        obtain ⟨ls2, hl2⟩ : ∃ q, l.drop k = q := ⟨_, rfl⟩
        obtain ⟨n2, hn2⟩ : ∃ q, ls2.length = q := ⟨_, rfl⟩
        obtain ⟨X1, hXX1⟩ : ∃ q, ls1.flatMap enc2 = q := ⟨_, rfl⟩
        obtain ⟨X2, hXX2⟩ : ∃ q, ls2.flatMap enc2 = q := ⟨_, rfl⟩
        rw [hl1] at HL1 HX1 HP1 HLAST
        rw [hl2] at HL2 HP2 HLAST
        rw [hn2, hXX1, hXX2] at HLAST
        have HXX1 := Lib.hid hXX1
        have HXX2 := Lib.hid hXX2
        have HN2 := Lib.hid hn2
        clear hl1 hl2 hn2 hXX1 hXX2
        refine wp_region_invtail 12 (by kernel_rfl) (by kernel_rfl) (by kernel_rfl) (by kernel_rfl) (of_decide_eq_true (by kernel_rfl)) (by kernel_rfl) (PutInv wd w.heap.size k n2 p1 p2 (.slice none l.length cap) (.slice none k cap) ((.slice none (l.length - k) (cap - k))) X1 X2 _ _ _ _ _ _ _ _ _ _ _ _ _ _ _ _ _ _ _ _ _ _ _ _ _ _ _ _ _ _ _ _ _ _ _ _ _ _ _ _ _ _ _ _ _ _ _ _ _ _ _) ⟨false, false, false, false, false, false, false, false, false, false, false, false, 0, 0, undef, undef, undef, rfl, rfl, HW0.out, by simp, by simp, by simp, by simp, by simp, by simp, by simp, by simp⟩ ?hend ?hstep
        case hstep =>
          rintro listed a w' i ⟨l0, l1, l2, l3, l4, l5, l6, l7, l8, l9, l10, l11, A, B, V, V2, V3, rfl, rfl, hb, hA, hV, hV2, hV3, hB, k4, k7, k11⟩ hi hin
          obtain ⟨hf, o', ho', hp⟩ := mem_ready.1 hi
          clear hi
          obtain ⟨y0, y1⟩ := HRT.out w' hb
          obtain rfl | rfl | rfl | rfl | rfl | rfl | rfl | rfl | rfl | rfl | rfl | rfl : i = 0 ∨ i = 1 ∨ i = 2 ∨ i = 3 ∨ i = 4 ∨ i = 5 ∨ i = 6 ∨ i = 7 ∨ i = 8 ∨ i = 9 ∨ i = 10 ∨ i = 11 := by omega
          · obtain rfl : l0 = false := by simpa using hf
            obtain rfl : l4 = false := by
              cases l4 with
              | false => rfl
              | true => exact absurd (k4 rfl) (by decide)
            clear hp ho'
            unfold wpOp
            simp only [pkIf_true]
            go_simp
            exact .inl ⟨true, l1, l2, l3, false, l5, l6, l7, l8, l9, l10, l11, w'.heap.size, B, V, V2, V3, rfl, rfl, hb.alloc hb.size _, (fun _ _ => World.ownsRow_made w' #[] 0 hb.size (by unfold maxLen; omega) (by simp)), (fun h => by cases h), (fun h => by cases (k7 h).1), (fun h => by cases (k7 (k11 h)).1), (fun h1 h2 => ⟨(gNe _ _ _ (Nat.ne_of_lt (Array.getElem?_eq_some_iff.1 (hB h1 h2).1).1)).trans (hB h1 h2).1, (fun _ _ => (Nat.ne_of_lt (Array.getElem?_eq_some_iff.1 (hB h1 h2).1).1).symm), (fun h => by cases h)⟩), (fun h => by cases h), (fun h => by cases (k7 h).1), k11⟩
          · obtain rfl : l1 = false := by simpa using hf
            clear hp ho'
            unfold wpOp
            simp only [pkIf_true]
            go_simp
            exact .inl ⟨l0, true, l2, l3, l4, l5, l6, l7, l8, l9, l10, l11, A, B, V, V2, V3, rfl, rfl, hb, hA, hV, hV2, hV3, hB, k4, k7, k11⟩
          · obtain rfl : l2 = false := by simpa using hf
            clear hp ho'
            unfold wpOp
            simp only [pkIf_true]
            go_simp
            exact .inl ⟨l0, l1, true, l3, l4, l5, l6, l7, l8, l9, l10, l11, A, B, V, V2, V3, rfl, rfl, hb, hA, hV, hV2, hV3, hB, k4, k7, k11⟩
          · obtain rfl : l3 = false := by simpa using hf
            cases ho'
            obtain rfl : l1 = true := by simpa using hp ⟨1, .data⟩ (by simp) rfl
            obtain rfl : l2 = true := by simpa using hp ⟨2, .data⟩ (by simp) rfl
            clear hp
            unfold wpOp
            simp only [pkIf_true]
            go_simp
            exact .inl ⟨l0, true, true, true, l4, l5, l6, l7, l8, l9, l10, l11, A, B, V, V2, V3, rfl, rfl, hb, hA, hV, hV2, hV3, hB, k4, k7, k11⟩
          · obtain rfl : l4 = false := by simpa using hf
            obtain rfl : l7 = false := by
              cases l7 with
              | false => rfl
              | true => exact absurd ((k7 rfl).1) (by decide)
            cases ho'
            obtain rfl : l0 = true := by simpa using hp ⟨0, .data⟩ (by simp) rfl
            obtain rfl : l3 = true := by simpa using hp ⟨3, .data⟩ (by simp) rfl
            clear hp
            unfold wpOp
            simp only [pkIf_true, List.getElem?_toArray, List.getElem?_cons_succ, List.getElem?_cons_zero]
            refine ifWanted rfl (pair_append _ _ rfl wd.heap.size (.slice (some ⟨A, 0, none⟩) 0 0) 0 [] rfl (hA rfl rfl) (.slice none k cap) ls1 rfl (HP1.out w' hb) HL1.out (by omega) hb.size ?_)
            intro v' w9 hown hgr hat
            rw [Nat.zero_add, List.nil_append] at hown
            refine ⟨true, l1, l2, true, true, l5, l6, false, l8, l9, l10, l11, A, B, v', V2, V3, rfl, rfl, hb.grown hgr hb.size (fun j e => (World.ownsRow.lt (hA rfl rfl) j e).1), (fun _ h => by cases h), (fun _ _ => by rw [HX1.out, HXX1.out] at hown; exact hown), (fun h => by cases h), (fun h => by cases (k11 h)), (fun h1 _ => ⟨(hgr.block _ (Array.getElem?_eq_some_iff.1 (hB h1 rfl).1).1 (fun e => (hB h1 rfl).2.1 rfl rfl (by simpa [Value.ownBlock] using e.symm))).trans (hB h1 rfl).1, (fun _ h => by cases h), (fun _ e => ?_)⟩), (fun _ => rfl), (fun h => by cases h), k11⟩
            rcases hat with q | q
            · rw [q] at e; exact (hB h1 rfl).2.1 rfl rfl (by simpa [Value.ownBlock] using e)
            · rw [q] at e; cases e; exact Nat.lt_irrefl _ (Array.getElem?_eq_some_iff.1 (hB h1 rfl).1).1
          · obtain rfl : l5 = false := by simpa using hf
            clear hp ho'
            unfold wpOp
            simp only [pkIf_true]
            go_simp
            exact .inl ⟨l0, l1, l2, l3, l4, true, l6, l7, l8, l9, l10, l11, A, B, V, V2, V3, rfl, rfl, hb, hA, hV, hV2, hV3, hB, k4, k7, k11⟩
          · obtain rfl : l6 = false := by simpa using hf
            obtain rfl : l7 = false := by
              cases l7 with
              | false => rfl
              | true => exact absurd ((k7 rfl).2) (by decide)
            cases ho'
            obtain rfl : l5 = true := by simpa using hp ⟨5, .data⟩ (by simp) rfl
            clear hp
            unfold wpOp
            simp only [pkIf_true]
            go_simp
            exact .inl ⟨l0, l1, l2, l3, l4, true, true, false, l8, l9, l10, l11, A, w'.heap.size, V, V2, V3, rfl, rfl, hb.alloc hb.size _, (fun h1 h2 => (hA h1 h2).alloc _), (fun h1 h2 => (hV h1 h2).alloc _), (fun h => by cases h), (fun h => by cases (k11 h)), (fun _ _ => ⟨heap_alloc_new _ _, (fun h1 h2 => Nat.ne_of_lt (World.ownsRow.lt (hA h1 h2) A rfl).2), (fun h1 e => Nat.lt_irrefl _ (World.ownsRow.lt (hV h1 rfl) _ e).2)⟩), k4, (fun h => by cases h), k11⟩
          · obtain rfl : l7 = false := by simpa using hf
            obtain rfl : l11 = false := by
              cases l11 with
              | false => rfl
              | true => exact absurd (k11 rfl) (by decide)
            cases ho'
            obtain rfl : l4 = true := by simpa using hp ⟨4, .data⟩ (by simp) rfl
            obtain rfl : l6 = true := by simpa using hp ⟨6, .data⟩ (by simp) rfl
            clear hp
            unfold wpOp
            simp only [pkIf_true, List.getElem?_toArray, List.getElem?_cons_succ, List.getElem?_cons_zero]
            obtain ⟨f1, _, f3⟩ := hB rfl rfl
            refine ifWanted rfl (append_at_wp _ _ 60 rfl wd.heap.size 68 i0 (.agg #[.int .i64 0, .int .i64 0]) 2 16 Tryz.underlying60 hi0 hz0 hz1 hz2 rfl (by decide) V k X1 rfl (hV rfl rfl) ⟨B, 0, none⟩ 1 1 [.int .i64 p1, .int .i64 p2] rfl rfl (fun j u hu => cell_add f1 j u hu) (by simp [Value.oneCell']) (by unfold maxLen; have := HKL4.out; omega) (by have := HKL4.out; omega) hb.size ?_)
            intro v' w9 hown hgr hat
            exact ⟨l0, l1, l2, l3, true, l5, true, true, l8, l9, l10, false, A, B, V, v', V3, rfl, rfl, hb.grown hgr hb.size (fun j e => (World.ownsRow.lt (hV rfl rfl) j e).1), (fun _ h => by cases h), (fun _ h => by cases h), (fun _ _ => hown), (fun h => by cases h), (fun _ h => by cases h), (fun _ => by first | rfl | exact k4 rfl), (fun _ => ⟨rfl, rfl⟩), (fun h => by cases h)⟩
          · obtain rfl : l8 = false := by simpa using hf
            clear hp ho'
            unfold wpOp
            simp only [pkIf_true]
            go_simp
            exact .inl ⟨l0, l1, l2, l3, l4, l5, l6, l7, true, l9, l10, l11, A, B, V, V2, V3, rfl, rfl, hb, hA, hV, hV2, hV3, hB, k4, k7, k11⟩
          · obtain rfl : l9 = false := by simpa using hf
            clear hp ho'
            unfold wpOp
            simp only [pkIf_true]
            go_simp
            exact .inl ⟨l0, l1, l2, l3, l4, l5, l6, l7, l8, true, l10, l11, A, B, V, V2, V3, rfl, rfl, hb, hA, hV, hV2, hV3, hB, k4, k7, k11⟩
          · obtain rfl : l10 = false := by simpa using hf
            cases ho'
            obtain rfl : l8 = true := by simpa using hp ⟨8, .data⟩ (by simp) rfl
            obtain rfl : l9 = true := by simpa using hp ⟨9, .data⟩ (by simp) rfl
            clear hp
            unfold wpOp
            simp only [pkIf_true]
            go_simp
            exact .inl ⟨l0, l1, l2, l3, l4, l5, l6, l7, true, true, true, l11, A, B, V, V2, V3, rfl, rfl, hb, hA, hV, hV2, hV3, hB, k4, k7, k11⟩
          · obtain rfl : l11 = false := by simpa using hf
            cases ho'
            obtain rfl : l7 = true := by simpa using hp ⟨7, .data⟩ (by simp) rfl
            obtain rfl : l10 = true := by simpa using hp ⟨10, .data⟩ (by simp) rfl
            clear hp
            unfold wpOp
            simp only [pkIf_true, List.getElem?_toArray, List.getElem?_cons_succ, List.getElem?_cons_zero]
            refine ifWanted rfl (pair_append _ _ rfl wd.heap.size V2 (k + 1) (X1 ++ [.int .i64 p1, .int .i64 p2]) rfl (hV2 rfl rfl) (.slice none (l.length - k) (cap - k)) ls2 rfl (HP2.out w' hb) HL2.out (by have := HKL4.out; omega) hb.size ?_)
            intro v' w9 hown hgr hat
            exact ⟨l0, l1, l2, l3, l4, l5, l6, true, l8, l9, true, true, A, B, V, V2, v', rfl, rfl, hb.grown hgr hb.size (fun j e => (World.ownsRow.lt (hV2 rfl rfl) j e).1), (fun h1 h2 => by rw [(k7 rfl).1] at h2; cases h2), (fun h1 h2 => by cases h2), (fun _ h => by cases h), (fun _ => by rw [HN2.out, HXX2.out] at hown; exact hown), (fun h1 h2 => by cases h2), k4, k7, (fun _ => rfl)⟩
        case hend =>
          rintro listed a w9 ⟨l0, l1, l2, l3, l4, l5, l6, l7, l8, l9, l10, l11, A, B, V, V2, V3, rfl, rfl, hb, hA, hV, hV2, hV3, hB, k4, k7, k11⟩ hall
          have hal : l0 = true ∧ l1 = true ∧ l2 = true ∧ l3 = true ∧ l4 = true ∧ l5 = true ∧ l6 = true ∧ l7 = true ∧ l8 = true ∧ l9 = true ∧ l10 = true ∧ l11 = true := ⟨by simpa using hall 0 (by decide), by simpa using hall 1 (by decide), by simpa using hall 2 (by decide), by simpa using hall 3 (by decide), by simpa using hall 4 (by decide), by simpa using hall 5 (by decide), by simpa using hall 6 (by decide), by simpa using hall 7 (by decide), by simpa using hall 8 (by decide), by simpa using hall 9 (by decide), by simpa using hall 10 (by decide), by simpa using hall 11 (by decide)⟩
          obtain ⟨rfl, rfl, rfl, rfl, rfl, rfl, rfl, rfl, rfl, rfl, rfl, rfl⟩ := hal
          have HB9 := Lib.hid hb
          have HO9 := Lib.hid (hV3 rfl)
          simp only [pkIf_true, List.drop_succ_cons, List.drop_zero]
          clear hall hb hA hV hV2 hV3 hB k4 k7 k11
          go_wp2_with fail
          go_ret
          exact ⟨V3, rfl, P2Row.of_own (HLAST.out V3 w9 HO9.out), P2Cap.of_own HO9.out, HWB.out.trans (HB9.out.mono HWB.out.size)⟩
      | some ad =>
        by_cases hck0 : cap = k
        · have hck : (cap = k) = True := by simpa using hck0
          clear hck0
          have hll := HLL.out
          have hkc : (k : Int) ≤ (cap : Int) := by omega
          have hkn : (k : Int) ≤ (l.length : Int) := by omega
          have hk0 : (0 : Int) ≤ k := by omega
          have HKL4 : Hid (k ≤ 4000) := Lib.hid (by omega)
          have HL1 : Hid ((l.take k).length ≤ 4000) := Lib.hid (by rw [List.length_take]; omega)
          have HL2 : Hid ((l.drop k).length ≤ 4000) := Lib.hid (by rw [List.length_drop]; omega)
          have HX1 : Hid ((l.take k).length = k) := Lib.hid (by rw [List.length_take]; omega)
          have HHK := Lib.hid hk
          go_wp2_with fail
          go_quiet (fail)
          go_wp2_with fail
          generalize hWD : World.drewN wr _ = wd
          have hwd : Below wr.heap.size wr wd := by rw [← hWD]; exact below_keepN _
          have HW0 := Lib.hid ((Below.refl wd.heap.size wd).drew)
          have HWB := Lib.hid (HB.out.trans (hwd.mono HB.out.size))
          have HNq := Lib.hid ((hwd.block _ (Array.getElem?_eq_some_iff.1 HNp.out).1).trans HNp.out)
          have HRT : Hid (∀ w', Below wd.heap.size wd w' → w'.cell? ⟨w.heap.size, 0, none⟩ = some (.int .i64 p1) ∧ w'.cell? ⟨w.heap.size, 1, none⟩ = some (.int .i64 p2)) := Lib.hid (fun w' h => by
            have h2 := (h.block _ (Array.getElem?_eq_some_iff.1 HNq.out).1).trans HNq.out
            exact ⟨cellH h2 0, cellH h2 1⟩)
          have HP1 : Hid (∀ w', Below wd.heap.size wd w' → P2Row w' (.slice (some ad) k cap) (l.take k)) := Lib.hid (fun w' h => (HV.out.keep (HWB.out.trans (h.mono HWB.out.size))).cut k HHK.out)
          have HLAST : Hid (∀ (V3 : Value) (w9 : World), w9.ownsRow wd.heap.size 68 2 V3 (k + 1 + (l.drop k).length) ((l.take k).flatMap enc2 ++ [.int .i64 p1, .int .i64 p2] ++ (l.drop k).flatMap enc2) → w9.ownsRow wd.heap.size 68 2 V3 PL.length (PL.flatMap enc2)) := Lib.hid (fun V3 w9 h => by
            have e : PL = l.take k ++ (p1, p2) :: l.drop k := by rw [HPP.out, HATK.out]
            have e1 : PL.length = k + 1 + (l.drop k).length := by rw [e, List.length_append, List.length_cons, HX1.out]; omega
            have e2 : PL.flatMap enc2 = (l.take k).flatMap enc2 ++ [.int .i64 p1, .int .i64 p2] ++ (l.drop k).flatMap enc2 := by rw [e, List.flatMap_append, List.flatMap_cons, List.append_assoc]; rfl
            rw [e1, e2]; exact h)
          clear hWD hwd
          have HP2 : Hid (∀ w', Below wd.heap.size wd w' → P2Row w' (.slice (some ad) (l.length - k) (cap - k)) (l.drop k)) := Lib.hid (fun w' h => .inl ⟨_, _, by rw [show l.length - k = 0 by have := HKL0.out; omega], List.drop_eq_nil_of_le (by have := HKL0.out; omega)⟩)
          obtain ⟨ls1, hl1⟩ : ∃ q, l.take k = q := ⟨_, rfl⟩
          obtain ⟨ls2, hl2⟩ : ∃ q, l.drop k = q := ⟨_, rfl⟩
          obtain ⟨n2, hn2⟩ : ∃ q, ls2.length = q := ⟨_, rfl⟩
          obtain ⟨X1, hXX1⟩ : ∃ q, ls1.flatMap enc2 = q := ⟨_, rfl⟩
          obtain ⟨X2, hXX2⟩ : ∃ q, ls2.flatMap enc2 = q := ⟨_, rfl⟩
          rw [hl1] at HL1 HX1 HP1 HLAST
          rw [hl2] at HL2 HP2 HLAST
          rw [hn2, hXX1, hXX2] at HLAST
          have HXX1 := Lib.hid hXX1
          have HXX2 := Lib.hid hXX2
          have HN2 := Lib.hid hn2
          clear hl1 hl2 hn2 hXX1 hXX2
          refine wp_region_invtail 12 (by kernel_rfl) (by kernel_rfl) (by kernel_rfl) (by kernel_rfl) (of_decide_eq_true (by kernel_rfl)) (by kernel_rfl) (PutInv wd w.heap.size k n2 p1 p2 (.slice (some ad) l.length cap) (.slice (some ad) k cap) ((.slice (some ad) (l.length - k) (cap - k))) X1 X2 _ _ _ _ _ _ _ _ _ _ _ _ _ _ _ _ _ _ _ _ _ _ _ _ _ _ _ _ _ _ _ _ _ _ _ _ _ _ _ _ _ _ _ _ _ _ _ _ _ _ _) ⟨false, false, false, false, false, false, false, false, false, false, false, false, 0, 0, undef, undef, undef, rfl, rfl, HW0.out, by simp, by simp, by simp, by simp, by simp, by simp, by simp, by simp⟩ ?hend ?hstep
          case hstep =>
            rintro listed a w' i ⟨l0, l1, l2, l3, l4, l5, l6, l7, l8, l9, l10, l11, A, B, V, V2, V3, rfl, rfl, hb, hA, hV, hV2, hV3, hB, k4, k7, k11⟩ hi hin
            obtain ⟨hf, o', ho', hp⟩ := mem_ready.1 hi
            clear hi
            obtain ⟨y0, y1⟩ := HRT.out w' hb
            obtain rfl | rfl | rfl | rfl | rfl | rfl | rfl | rfl | rfl | rfl | rfl | rfl : i = 0 ∨ i = 1 ∨ i = 2 ∨ i = 3 ∨ i = 4 ∨ i = 5 ∨ i = 6 ∨ i = 7 ∨ i = 8 ∨ i = 9 ∨ i = 10 ∨ i = 11 := by omega
            · obtain rfl : l0 = false := by simpa using hf
              obtain rfl : l4 = false := by
                cases l4 with
                | false => rfl
                | true => exact absurd (k4 rfl) (by decide)
              clear hp ho'
              unfold wpOp
              simp only [pkIf_true]
              go_simp
              exact .inl ⟨true, l1, l2, l3, false, l5, l6, l7, l8, l9, l10, l11, w'.heap.size, B, V, V2, V3, rfl, rfl, hb.alloc hb.size _, (fun _ _ => World.ownsRow_made w' #[] 0 hb.size (by unfold maxLen; omega) (by simp)), (fun h => by cases h), (fun h => by cases (k7 h).1), (fun h => by cases (k7 (k11 h)).1), (fun h1 h2 => ⟨(gNe _ _ _ (Nat.ne_of_lt (Array.getElem?_eq_some_iff.1 (hB h1 h2).1).1)).trans (hB h1 h2).1, (fun _ _ => (Nat.ne_of_lt (Array.getElem?_eq_some_iff.1 (hB h1 h2).1).1).symm), (fun h => by cases h)⟩), (fun h => by cases h), (fun h => by cases (k7 h).1), k11⟩
            · obtain rfl : l1 = false := by simpa using hf
              clear hp ho'
              unfold wpOp
              simp only [pkIf_true]
              go_simp
              exact .inl ⟨l0, true, l2, l3, l4, l5, l6, l7, l8, l9, l10, l11, A, B, V, V2, V3, rfl, rfl, hb, hA, hV, hV2, hV3, hB, k4, k7, k11⟩
            · obtain rfl : l2 = false := by simpa using hf
              clear hp ho'
              unfold wpOp
              simp only [pkIf_true]
              go_simp
              exact .inl ⟨l0, l1, true, l3, l4, l5, l6, l7, l8, l9, l10, l11, A, B, V, V2, V3, rfl, rfl, hb, hA, hV, hV2, hV3, hB, k4, k7, k11⟩
            · obtain rfl : l3 = false := by simpa using hf
              cases ho'
              obtain rfl : l1 = true := by simpa using hp ⟨1, .data⟩ (by simp) rfl
              obtain rfl : l2 = true := by simpa using hp ⟨2, .data⟩ (by simp) rfl
              clear hp
              unfold wpOp
              simp only [pkIf_true]
              go_simp
              exact .inl ⟨l0, true, true, true, l4, l5, l6, l7, l8, l9, l10, l11, A, B, V, V2, V3, rfl, rfl, hb, hA, hV, hV2, hV3, hB, k4, k7, k11⟩
            · obtain rfl : l4 = false := by simpa using hf
              obtain rfl : l7 = false := by
                cases l7 with
                | false => rfl
                | true => exact absurd ((k7 rfl).1) (by decide)
              cases ho'
              obtain rfl : l0 = true := by simpa using hp ⟨0, .data⟩ (by simp) rfl
              obtain rfl : l3 = true := by simpa using hp ⟨3, .data⟩ (by simp) rfl
              clear hp
              unfold wpOp
              simp only [pkIf_true, List.getElem?_toArray, List.getElem?_cons_succ, List.getElem?_cons_zero]
              refine ifWanted rfl (pair_append _ _ rfl wd.heap.size (.slice (some ⟨A, 0, none⟩) 0 0) 0 [] rfl (hA rfl rfl) (.slice (some ad) k cap) ls1 rfl (HP1.out w' hb) HL1.out (by omega) hb.size ?_)
              intro v' w9 hown hgr hat
              rw [Nat.zero_add, List.nil_append] at hown
              refine ⟨true, l1, l2, true, true, l5, l6, false, l8, l9, l10, l11, A, B, v', V2, V3, rfl, rfl, hb.grown hgr hb.size (fun j e => (World.ownsRow.lt (hA rfl rfl) j e).1), (fun _ h => by cases h), (fun _ _ => by rw [HX1.out, HXX1.out] at hown; exact hown), (fun h => by cases h), (fun h => by cases (k11 h)), (fun h1 _ => ⟨(hgr.block _ (Array.getElem?_eq_some_iff.1 (hB h1 rfl).1).1 (fun e => (hB h1 rfl).2.1 rfl rfl (by simpa [Value.ownBlock] using e.symm))).trans (hB h1 rfl).1, (fun _ h => by cases h), (fun _ e => ?_)⟩), (fun _ => rfl), (fun h => by cases h), k11⟩
              rcases hat with q | q
              · rw [q] at e; exact (hB h1 rfl).2.1 rfl rfl (by simpa [Value.ownBlock] using e)
              · rw [q] at e; cases e; exact Nat.lt_irrefl _ (Array.getElem?_eq_some_iff.1 (hB h1 rfl).1).1
            · obtain rfl : l5 = false := by simpa using hf
              clear hp ho'
              unfold wpOp
              simp only [pkIf_true]
              go_simp
              exact .inl ⟨l0, l1, l2, l3, l4, true, l6, l7, l8, l9, l10, l11, A, B, V, V2, V3, rfl, rfl, hb, hA, hV, hV2, hV3, hB, k4, k7, k11⟩
            · obtain rfl : l6 = false := by simpa using hf
              obtain rfl : l7 = false := by
                cases l7 with
                | false => rfl
                | true => exact absurd ((k7 rfl).2) (by decide)
              cases ho'
              obtain rfl : l5 = true := by simpa using hp ⟨5, .data⟩ (by simp) rfl
              clear hp
              unfold wpOp
              simp only [pkIf_true]
              go_simp
              exact .inl ⟨l0, l1, l2, l3, l4, true, true, false, l8, l9, l10, l11, A, w'.heap.size, V, V2, V3, rfl, rfl, hb.alloc hb.size _, (fun h1 h2 => (hA h1 h2).alloc _), (fun h1 h2 => (hV h1 h2).alloc _), (fun h => by cases h), (fun h => by cases (k11 h)), (fun _ _ => ⟨heap_alloc_new _ _, (fun h1 h2 => Nat.ne_of_lt (World.ownsRow.lt (hA h1 h2) A rfl).2), (fun h1 e => Nat.lt_irrefl _ (World.ownsRow.lt (hV h1 rfl) _ e).2)⟩), k4, (fun h => by cases h), k11⟩
            · obtain rfl : l7 = false := by simpa using hf
              obtain rfl : l11 = false := by
                cases l11 with
                | false => rfl
                | true => exact absurd (k11 rfl) (by decide)
              cases ho'
              obtain rfl : l4 = true := by simpa using hp ⟨4, .data⟩ (by simp) rfl
              obtain rfl : l6 = true := by simpa using hp ⟨6, .data⟩ (by simp) rfl
              clear hp
              unfold wpOp
              simp only [pkIf_true, List.getElem?_toArray, List.getElem?_cons_succ, List.getElem?_cons_zero]
              obtain ⟨f1, _, f3⟩ := hB rfl rfl
              refine ifWanted rfl (append_at_wp _ _ 60 rfl wd.heap.size 68 i0 (.agg #[.int .i64 0, .int .i64 0]) 2 16 Tryz.underlying60 hi0 hz0 hz1 hz2 rfl (by decide) V k X1 rfl (hV rfl rfl) ⟨B, 0, none⟩ 1 1 [.int .i64 p1, .int .i64 p2] rfl rfl (fun j u hu => cell_add f1 j u hu) (by simp [Value.oneCell']) (by unfold maxLen; have := HKL4.out; omega) (by have := HKL4.out; omega) hb.size ?_)
              intro v' w9 hown hgr hat
              exact ⟨l0, l1, l2, l3, true, l5, true, true, l8, l9, l10, false, A, B, V, v', V3, rfl, rfl, hb.grown hgr hb.size (fun j e => (World.ownsRow.lt (hV rfl rfl) j e).1), (fun _ h => by cases h), (fun _ h => by cases h), (fun _ _ => hown), (fun h => by cases h), (fun _ h => by cases h), (fun _ => by first | rfl | exact k4 rfl), (fun _ => ⟨rfl, rfl⟩), (fun h => by cases h)⟩
            · obtain rfl : l8 = false := by simpa using hf
              clear hp ho'
              unfold wpOp
              simp only [pkIf_true]
              go_simp
              exact .inl ⟨l0, l1, l2, l3, l4, l5, l6, l7, true, l9, l10, l11, A, B, V, V2, V3, rfl, rfl, hb, hA, hV, hV2, hV3, hB, k4, k7, k11⟩
            · obtain rfl : l9 = false := by simpa using hf
              clear hp ho'
              unfold wpOp
              simp only [pkIf_true]
              go_simp
              exact .inl ⟨l0, l1, l2, l3, l4, l5, l6, l7, l8, true, l10, l11, A, B, V, V2, V3, rfl, rfl, hb, hA, hV, hV2, hV3, hB, k4, k7, k11⟩
            · obtain rfl : l10 = false := by simpa using hf
              cases ho'
              obtain rfl : l8 = true := by simpa using hp ⟨8, .data⟩ (by simp) rfl
              obtain rfl : l9 = true := by simpa using hp ⟨9, .data⟩ (by simp) rfl
              clear hp
              unfold wpOp
              simp only [pkIf_true]
              go_simp
              exact .inl ⟨l0, l1, l2, l3, l4, l5, l6, l7, true, true, true, l11, A, B, V, V2, V3, rfl, rfl, hb, hA, hV, hV2, hV3, hB, k4, k7, k11⟩
            · obtain rfl : l11 = false := by simpa using hf
              cases ho'
              obtain rfl : l7 = true := by simpa using hp ⟨7, .data⟩ (by simp) rfl
              obtain rfl : l10 = true := by simpa using hp ⟨10, .data⟩ (by simp) rfl
              clear hp
              unfold wpOp
              simp only [pkIf_true, List.getElem?_toArray, List.getElem?_cons_succ, List.getElem?_cons_zero]
              refine ifWanted rfl (pair_append _ _ rfl wd.heap.size V2 (k + 1) (X1 ++ [.int .i64 p1, .int .i64 p2]) rfl (hV2 rfl rfl) (.slice (some ad) (l.length - k) (cap - k)) ls2 rfl (HP2.out w' hb) HL2.out (by have := HKL4.out; omega) hb.size ?_)
              intro v' w9 hown hgr hat
              exact ⟨l0, l1, l2, l3, l4, l5, l6, true, l8, l9, true, true, A, B, V, V2, v', rfl, rfl, hb.grown hgr hb.size (fun j e => (World.ownsRow.lt (hV2 rfl rfl) j e).1), (fun h1 h2 => by rw [(k7 rfl).1] at h2; cases h2), (fun h1 h2 => by cases h2), (fun _ h => by cases h), (fun _ => by rw [HN2.out, HXX2.out] at hown; exact hown), (fun h1 h2 => by cases h2), k4, k7, (fun _ => rfl)⟩
          case hend =>
            rintro listed a w9 ⟨l0, l1, l2, l3, l4, l5, l6, l7, l8, l9, l10, l11, A, B, V, V2, V3, rfl, rfl, hb, hA, hV, hV2, hV3, hB, k4, k7, k11⟩ hall
            have hal : l0 = true ∧ l1 = true ∧ l2 = true ∧ l3 = true ∧ l4 = true ∧ l5 = true ∧ l6 = true ∧ l7 = true ∧ l8 = true ∧ l9 = true ∧ l10 = true ∧ l11 = true := ⟨by simpa using hall 0 (by decide), by simpa using hall 1 (by decide), by simpa using hall 2 (by decide), by simpa using hall 3 (by decide), by simpa using hall 4 (by decide), by simpa using hall 5 (by decide), by simpa using hall 6 (by decide), by simpa using hall 7 (by decide), by simpa using hall 8 (by decide), by simpa using hall 9 (by decide), by simpa using hall 10 (by decide), by simpa using hall 11 (by decide)⟩
            obtain ⟨rfl, rfl, rfl, rfl, rfl, rfl, rfl, rfl, rfl, rfl, rfl, rfl⟩ := hal
            have HB9 := Lib.hid hb
            have HO9 := Lib.hid (hV3 rfl)
            simp only [pkIf_true, List.drop_succ_cons, List.drop_zero]
            clear hall hb hA hV hV2 hV3 hB k4 k7 k11
            go_wp2_with fail
            go_ret
            exact ⟨V3, rfl, P2Row.of_own (HLAST.out V3 w9 HO9.out), P2Cap.of_own HO9.out, HWB.out.trans (HB9.out.mono HWB.out.size)⟩
        · have hck := hck0
          have hll := HLL.out
          have hkc : (k : Int) ≤ (cap : Int) := by omega
          have hkn : (k : Int) ≤ (l.length : Int) := by omega
          have hk0 : (0 : Int) ≤ k := by omega
          have HKL4 : Hid (k ≤ 4000) := Lib.hid (by omega)
          have HL1 : Hid ((l.take k).length ≤ 4000) := Lib.hid (by rw [List.length_take]; omega)
          have HL2 : Hid ((l.drop k).length ≤ 4000) := Lib.hid (by rw [List.length_drop]; omega)
          have HX1 : Hid ((l.take k).length = k) := Lib.hid (by rw [List.length_take]; omega)
          have HHK := Lib.hid hk
          go_wp2_with fail
          go_quiet (fail)
          go_wp2_with fail
          generalize hWD : World.drewN wr _ = wd
          have hwd : Below wr.heap.size wr wd := by rw [← hWD]; exact below_keepN _
          have HW0 := Lib.hid ((Below.refl wd.heap.size wd).drew)
          have HWB := Lib.hid (HB.out.trans (hwd.mono HB.out.size))
          have HNq := Lib.hid ((hwd.block _ (Array.getElem?_eq_some_iff.1 HNp.out).1).trans HNp.out)
          have HRT : Hid (∀ w', Below wd.heap.size wd w' → w'.cell? ⟨w.heap.size, 0, none⟩ = some (.int .i64 p1) ∧ w'.cell? ⟨w.heap.size, 1, none⟩ = some (.int .i64 p2)) := Lib.hid (fun w' h => by
            have h2 := (h.block _ (Array.getElem?_eq_some_iff.1 HNq.out).1).trans HNq.out
            exact ⟨cellH h2 0, cellH h2 1⟩)
          have HP1 : Hid (∀ w', Below wd.heap.size wd w' → P2Row w' (.slice (some ad) k cap) (l.take k)) := Lib.hid (fun w' h => (HV.out.keep (HWB.out.trans (h.mono HWB.out.size))).cut k HHK.out)
          have HLAST : Hid (∀ (V3 : Value) (w9 : World), w9.ownsRow wd.heap.size 68 2 V3 (k + 1 + (l.drop k).length) ((l.take k).flatMap enc2 ++ [.int .i64 p1, .int .i64 p2] ++ (l.drop k).flatMap enc2) → w9.ownsRow wd.heap.size 68 2 V3 PL.length (PL.flatMap enc2)) := Lib.hid (fun V3 w9 h => by
            have e : PL = l.take k ++ (p1, p2) :: l.drop k := by rw [HPP.out, HATK.out]
            have e1 : PL.length = k + 1 + (l.drop k).length := by rw [e, List.length_append, List.length_cons, HX1.out]; omega
            have e2 : PL.flatMap enc2 = (l.take k).flatMap enc2 ++ [.int .i64 p1, .int .i64 p2] ++ (l.drop k).flatMap enc2 := by rw [e, List.flatMap_append, List.flatMap_cons, List.append_assoc]; rfl
            rw [e1, e2]; exact h)
          clear hWD hwd
          have HP2 : Hid (∀ w', Below wd.heap.size wd w' → P2Row w' (.slice (some (ad.add (k * 2))) (l.length - k) (cap - k)) (l.drop k)) := Lib.hid (fun w' h => .inl ⟨_, _, by rw [show l.length - k = 0 by have := HKL0.out; omega], List.drop_eq_nil_of_le (by have := HKL0.out; omega)⟩)
          obtain ⟨ls1, hl1⟩ : ∃ q, l.take k = q := ⟨_, rfl⟩
          obtain ⟨ls2, hl2⟩ : ∃ q, l.drop k = q := ⟨_, rfl⟩
          obtain ⟨n2, hn2⟩ : ∃ q, ls2.length = q := ⟨_, rfl⟩
          obtain ⟨X1, hXX1⟩ : ∃ q, ls1.flatMap enc2 = q := ⟨_, rfl⟩
          obtain ⟨X2, hXX2⟩ : ∃ q, ls2.flatMap enc2 = q := ⟨_, rfl⟩
          rw [hl1] at HL1 HX1 HP1 HLAST
          rw [hl2] at HL2 HP2 HLAST
          rw [hn2, hXX1, hXX2] at HLAST
          have HXX1 := Lib.hid hXX1
          have HXX2 := Lib.hid hXX2
          have HN2 := Lib.hid hn2
          clear hl1 hl2 hn2 hXX1 hXX2
          refine wp_region_invtail 12 (by kernel_rfl) (by kernel_rfl) (by kernel_rfl) (by kernel_rfl) (of_decide_eq_true (by kernel_rfl)) (by kernel_rfl) (PutInv wd w.heap.size k n2 p1 p2 (.slice (some ad) l.length cap) (.slice (some ad) k cap) ((.slice (some (ad.add (k * 2))) (l.length - k) (cap - k))) X1 X2 _ _ _ _ _ _ _ _ _ _ _ _ _ _ _ _ _ _ _ _ _ _ _ _ _ _ _ _ _ _ _ _ _ _ _ _ _ _ _ _ _ _ _ _ _ _ _ _ _ _ _) ⟨false, false, false, false, false, false, false, false, false, false, false, false, 0, 0, undef, undef, undef, rfl, rfl, HW0.out, by simp, by simp, by simp, by simp, by simp, by simp, by simp, by simp⟩ ?hend ?hstep
          case hstep =>
            rintro listed a w' i ⟨l0, l1, l2, l3, l4, l5, l6, l7, l8, l9, l10, l11, A, B, V, V2, V3, rfl, rfl, hb, hA, hV, hV2, hV3, hB, k4, k7, k11⟩ hi hin
            obtain ⟨hf, o', ho', hp⟩ := mem_ready.1 hi
            clear hi
            obtain ⟨y0, y1⟩ := HRT.out w' hb
            obtain rfl | rfl | rfl | rfl | rfl | rfl | rfl | rfl | rfl | rfl | rfl | rfl : i = 0 ∨ i = 1 ∨ i = 2 ∨ i = 3 ∨ i = 4 ∨ i = 5 ∨ i = 6 ∨ i = 7 ∨ i = 8 ∨ i = 9 ∨ i = 10 ∨ i = 11 := by omega
            · obtain rfl : l0 = false := by simpa using hf
              obtain rfl : l4 = false := by
                cases l4 with
                | false => rfl
                | true => exact absurd (k4 rfl) (by decide)
              clear hp ho'
              unfold wpOp
              simp only [pkIf_true]
              go_simp
              exact .inl ⟨true, l1, l2, l3, false, l5, l6, l7, l8, l9, l10, l11, w'.heap.size, B, V, V2, V3, rfl, rfl, hb.alloc hb.size _, (fun _ _ => World.ownsRow_made w' #[] 0 hb.size (by unfold maxLen; omega) (by simp)), (fun h => by cases h), (fun h => by cases (k7 h).1), (fun h => by cases (k7 (k11 h)).1), (fun h1 h2 => ⟨(gNe _ _ _ (Nat.ne_of_lt (Array.getElem?_eq_some_iff.1 (hB h1 h2).1).1)).trans (hB h1 h2).1, (fun _ _ => (Nat.ne_of_lt (Array.getElem?_eq_some_iff.1 (hB h1 h2).1).1).symm), (fun h => by cases h)⟩), (fun h => by cases h), (fun h => by cases (k7 h).1), k11⟩
            · obtain rfl : l1 = false := by simpa using hf
              clear hp ho'
              unfold wpOp
              simp only [pkIf_true]
              go_simp
              exact .inl ⟨l0, true, l2, l3, l4, l5, l6, l7, l8, l9, l10, l11, A, B, V, V2, V3, rfl, rfl, hb, hA, hV, hV2, hV3, hB, k4, k7, k11⟩
            · obtain rfl : l2 = false := by simpa using hf
              clear hp ho'
              unfold wpOp
              simp only [pkIf_true]
              go_simp
              exact .inl ⟨l0, l1, true, l3, l4, l5, l6, l7, l8, l9, l10, l11, A, B, V, V2, V3, rfl, rfl, hb, hA, hV, hV2, hV3, hB, k4, k7, k11⟩
            · obtain rfl : l3 = false := by simpa using hf
              cases ho'
              obtain rfl : l1 = true := by simpa using hp ⟨1, .data⟩ (by simp) rfl
              obtain rfl : l2 = true := by simpa using hp ⟨2, .data⟩ (by simp) rfl
              clear hp
              unfold wpOp
              simp only [pkIf_true]
              go_simp
              exact .inl ⟨l0, true, true, true, l4, l5, l6, l7, l8, l9, l10, l11, A, B, V, V2, V3, rfl, rfl, hb, hA, hV, hV2, hV3, hB, k4, k7, k11⟩
            · obtain rfl : l4 = false := by simpa using hf
              obtain rfl : l7 = false := by
                cases l7 with
                | false => rfl
                | true => exact absurd ((k7 rfl).1) (by decide)
              cases ho'
              obtain rfl : l0 = true := by simpa using hp ⟨0, .data⟩ (by simp) rfl
              obtain rfl : l3 = true := by simpa using hp ⟨3, .data⟩ (by simp) rfl
              clear hp
              unfold wpOp
              simp only [pkIf_true, List.getElem?_toArray, List.getElem?_cons_succ, List.getElem?_cons_zero]
              refine ifWanted rfl (pair_append _ _ rfl wd.heap.size (.slice (some ⟨A, 0, none⟩) 0 0) 0 [] rfl (hA rfl rfl) (.slice (some ad) k cap) ls1 rfl (HP1.out w' hb) HL1.out (by omega) hb.size ?_)
              intro v' w9 hown hgr hat
              rw [Nat.zero_add, List.nil_append] at hown
              refine ⟨true, l1, l2, true, true, l5, l6, false, l8, l9, l10, l11, A, B, v', V2, V3, rfl, rfl, hb.grown hgr hb.size (fun j e => (World.ownsRow.lt (hA rfl rfl) j e).1), (fun _ h => by cases h), (fun _ _ => by rw [HX1.out, HXX1.out] at hown; exact hown), (fun h => by cases h), (fun h => by cases (k11 h)), (fun h1 _ => ⟨(hgr.block _ (Array.getElem?_eq_some_iff.1 (hB h1 rfl).1).1 (fun e => (hB h1 rfl).2.1 rfl rfl (by simpa [Value.ownBlock] using e.symm))).trans (hB h1 rfl).1, (fun _ h => by cases h), (fun _ e => ?_)⟩), (fun _ => rfl), (fun h => by cases h), k11⟩
              rcases hat with q | q
              · rw [q] at e; exact (hB h1 rfl).2.1 rfl rfl (by simpa [Value.ownBlock] using e)
              · rw [q] at e; cases e; exact Nat.lt_irrefl _ (Array.getElem?_eq_some_iff.1 (hB h1 rfl).1).1
            · obtain rfl : l5 = false := by simpa using hf
              clear hp ho'
              unfold wpOp
              simp only [pkIf_true]
              go_simp
              exact .inl ⟨l0, l1, l2, l3, l4, true, l6, l7, l8, l9, l10, l11, A, B, V, V2, V3, rfl, rfl, hb, hA, hV, hV2, hV3, hB, k4, k7, k11⟩
            · obtain rfl : l6 = false := by simpa using hf
              obtain rfl : l7 = false := by
                cases l7 with
                | false => rfl
                | true => exact absurd ((k7 rfl).2) (by decide)
              cases ho'
              obtain rfl : l5 = true := by simpa using hp ⟨5, .data⟩ (by simp) rfl
              clear hp
              unfold wpOp
              simp only [pkIf_true]
              go_simp
              exact .inl ⟨l0, l1, l2, l3, l4, true, true, false, l8, l9, l10, l11, A, w'.heap.size, V, V2, V3, rfl, rfl, hb.alloc hb.size _, (fun h1 h2 => (hA h1 h2).alloc _), (fun h1 h2 => (hV h1 h2).alloc _), (fun h => by cases h), (fun h => by cases (k11 h)), (fun _ _ => ⟨heap_alloc_new _ _, (fun h1 h2 => Nat.ne_of_lt (World.ownsRow.lt (hA h1 h2) A rfl).2), (fun h1 e => Nat.lt_irrefl _ (World.ownsRow.lt (hV h1 rfl) _ e).2)⟩), k4, (fun h => by cases h), k11⟩
            · obtain rfl : l7 = false := by simpa using hf
              obtain rfl : l11 = false := by
                cases l11 with
                | false => rfl
                | true => exact absurd (k11 rfl) (by decide)
              cases ho'
              obtain rfl : l4 = true := by simpa using hp ⟨4, .data⟩ (by simp) rfl
              obtain rfl : l6 = true := by simpa using hp ⟨6, .data⟩ (by simp) rfl
              clear hp
              unfold wpOp
              simp only [pkIf_true, List.getElem?_toArray, List.getElem?_cons_succ, List.getElem?_cons_zero]
              obtain ⟨f1, _, f3⟩ := hB rfl rfl
              refine ifWanted rfl (append_at_wp _ _ 60 rfl wd.heap.size 68 i0 (.agg #[.int .i64 0, .int .i64 0]) 2 16 Tryz.underlying60 hi0 hz0 hz1 hz2 rfl (by decide) V k X1 rfl (hV rfl rfl) ⟨B, 0, none⟩ 1 1 [.int .i64 p1, .int .i64 p2] rfl rfl (fun j u hu => cell_add f1 j u hu) (by simp [Value.oneCell']) (by unfold maxLen; have := HKL4.out; omega) (by have := HKL4.out; omega) hb.size ?_)
              intro v' w9 hown hgr hat
              exact ⟨l0, l1, l2, l3, true, l5, true, true, l8, l9, l10, false, A, B, V, v', V3, rfl, rfl, hb.grown hgr hb.size (fun j e => (World.ownsRow.lt (hV rfl rfl) j e).1), (fun _ h => by cases h), (fun _ h => by cases h), (fun _ _ => hown), (fun h => by cases h), (fun _ h => by cases h), (fun _ => by first | rfl | exact k4 rfl), (fun _ => ⟨rfl, rfl⟩), (fun h => by cases h)⟩
            · obtain rfl : l8 = false := by simpa using hf
              clear hp ho'
              unfold wpOp
              simp only [pkIf_true]
              go_simp
              exact .inl ⟨l0, l1, l2, l3, l4, l5, l6, l7, true, l9, l10, l11, A, B, V, V2, V3, rfl, rfl, hb, hA, hV, hV2, hV3, hB, k4, k7, k11⟩
            · obtain rfl : l9 = false := by simpa using hf
              clear hp ho'
              unfold wpOp
              simp only [pkIf_true]
              go_simp
              exact .inl ⟨l0, l1, l2, l3, l4, l5, l6, l7, l8, true, l10, l11, A, B, V, V2, V3, rfl, rfl, hb, hA, hV, hV2, hV3, hB, k4, k7, k11⟩
            · obtain rfl : l10 = false := by simpa using hf
              cases ho'
              obtain rfl : l8 = true := by simpa using hp ⟨8, .data⟩ (by simp) rfl
              obtain rfl : l9 = true := by simpa using hp ⟨9, .data⟩ (by simp) rfl
              clear hp
              unfold wpOp
              simp only [pkIf_true]
              go_simp
              exact .inl ⟨l0, l1, l2, l3, l4, l5, l6, l7, true, true, true, l11, A, B, V, V2, V3, rfl, rfl, hb, hA, hV, hV2, hV3, hB, k4, k7, k11⟩
            · obtain rfl : l11 = false := by simpa using hf
              cases ho'
              obtain rfl : l7 = true := by simpa using hp ⟨7, .data⟩ (by simp) rfl
              obtain rfl : l10 = true := by simpa using hp ⟨10, .data⟩ (by simp) rfl
              clear hp
              unfold wpOp
              simp only [pkIf_true, List.getElem?_toArray, List.getElem?_cons_succ, List.getElem?_cons_zero]
              refine ifWanted rfl (pair_append _ _ rfl wd.heap.size V2 (k + 1) (X1 ++ [.int .i64 p1, .int .i64 p2]) rfl (hV2 rfl rfl) (.slice (some (ad.add (k * 2))) (l.length - k) (cap - k)) ls2 rfl (HP2.out w' hb) HL2.out (by have := HKL4.out; omega) hb.size ?_)
              intro v' w9 hown hgr hat
              exact ⟨l0, l1, l2, l3, l4, l5, l6, true, l8, l9, true, true, A, B, V, V2, v', rfl, rfl, hb.grown hgr hb.size (fun j e => (World.ownsRow.lt (hV2 rfl rfl) j e).1), (fun h1 h2 => by rw [(k7 rfl).1] at h2; cases h2), (fun h1 h2 => by cases h2), (fun _ h => by cases h), (fun _ => by rw [HN2.out, HXX2.out] at hown; exact hown), (fun h1 h2 => by cases h2), k4, k7, (fun _ => rfl)⟩
          case hend =>
            rintro listed a w9 ⟨l0, l1, l2, l3, l4, l5, l6, l7, l8, l9, l10, l11, A, B, V, V2, V3, rfl, rfl, hb, hA, hV, hV2, hV3, hB, k4, k7, k11⟩ hall
            have hal : l0 = true ∧ l1 = true ∧ l2 = true ∧ l3 = true ∧ l4 = true ∧ l5 = true ∧ l6 = true ∧ l7 = true ∧ l8 = true ∧ l9 = true ∧ l10 = true ∧ l11 = true := ⟨by simpa using hall 0 (by decide), by simpa using hall 1 (by decide), by simpa using hall 2 (by decide), by simpa using hall 3 (by decide), by simpa using hall 4 (by decide), by simpa using hall 5 (by decide), by simpa using hall 6 (by decide), by simpa using hall 7 (by decide), by simpa using hall 8 (by decide), by simpa using hall 9 (by decide), by simpa using hall 10 (by decide), by simpa using hall 11 (by decide)⟩
            obtain ⟨rfl, rfl, rfl, rfl, rfl, rfl, rfl, rfl, rfl, rfl, rfl, rfl⟩ := hal
            have HB9 := Lib.hid hb
            have HO9 := Lib.hid (hV3 rfl)
            simp only [pkIf_true, List.drop_succ_cons, List.drop_zero]
            clear hall hb hA hV hV2 hV3 hB k4 k7 k11
            go_wp2_with fail
            go_ret
            exact ⟨V3, rfl, P2Row.of_own (HLAST.out V3 w9 HO9.out), P2Cap.of_own HO9.out, HWB.out.trans (HB9.out.mono HWB.out.size)⟩
end Go.Proofs.YtebdboacmeafaaaGreat
