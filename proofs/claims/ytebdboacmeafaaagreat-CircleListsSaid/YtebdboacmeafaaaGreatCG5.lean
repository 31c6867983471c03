/- Package firetowerref05: add. -/
import Derived.Test.YtebdboacmeafaaaGreatCF3
set_option linter.unusedVariables false
set_option linter.unusedSimpArgs false
namespace Go.Proofs.YtebdboacmeafaaaGreat
open Go Go.RowKit

/-- How many numbers at a list's beginning are less than a number. -/
def atI (l : List Int) (p : Int) : Nat := (l.takeWhile fun a => decide (a < p)).length
/-- A number put into a list. -/
def addI (l : List Int) (p : Int) : List Int := l.take (atI l p) ++ p :: l.drop (atI l p)
theorem atI_le (l : List Int) (p : Int) : atI l p ≤ l.length := by
  unfold atI
  induction l with
  | nil => simp
  | cons a l ih => rw [List.takeWhile_cons]; split <;> simp; omega
theorem atI_eq : ∀ {l : List Int} {p : Int} {k : Nat}, k ≤ l.length → (∀ j, j < k → l.getD j 0 < p) → (k < l.length → ¬ l.getD k 0 < p) → atI l p = k
  | [], p, k, hk, _, _ => by simp at hk; subst hk; rfl
  | a :: l, p, 0, _, _, h2 => by
    have h := h2 (by simp)
    have h' : decide (a < p) = false := decide_eq_false h
    unfold atI
    rw [List.takeWhile_cons, h']; rfl
  | a :: l, p, k + 1, hk, h1, h2 => by
    have h0 : decide (a < p) = true := decide_eq_true (h1 0 (by omega))
    have ih := atI_eq (l := l) (p := p) (k := k) (by simpa using hk) (fun j hj => h1 (j + 1) (by omega)) (fun h => h2 (by simpa using h))
    unfold atI at ih ⊢
    rw [List.takeWhile_cons, h0]
    simp only [if_true, List.length_cons, ih]
theorem addI_len (l : List Int) (p : Int) : (addI l p).length = l.length + 1 := by
  have := atI_le l p
  unfold addI
  rw [List.length_append, List.length_cons, List.length_take, List.length_drop]
  omega
theorem ICap.of_own {w : World} {base : Nat} {v : Value} {n : Nat} {xs : List Value} (h : w.ownsRow base 3 1 v n xs) : P2Cap v := by
  rcases h.2 with ⟨h1, h2⟩ | ⟨nb, nc, cur, e1, e2, e3, e4, e5, e6, e7⟩
  · exact ⟨_, _, _, h1, Nat.le_refl _⟩
  · exact ⟨_, _, _, e1, e4⟩
theorem INRow.cut {w : World} {a : Option Addr} {n c : Nat} {l : List Int} (h : INRow w (.slice a n c) l) (k : Nat) (hk : k ≤ l.length) : INRow w (.slice a k c) (l.take k) := by
  rcases h with ⟨_, _, hv, rfl⟩ | ⟨b', off', c', hv, h1, hc⟩
  · obtain rfl : k = 0 := by simpa using hk
    exact .inl ⟨_, _, rfl, rfl⟩
  · cases hv
    have hl : (l.take k).length = k := by rw [List.length_take]; omega
    refine .inr ⟨b', off', c, by rw [hl], h1, fun i hi => ?_⟩
    rw [hl] at hi
    have := hc i (by omega)
    rwa [List.getD_eq_getElem?_getD, List.getElem?_take_of_lt hi, ← List.getD_eq_getElem?_getD]
theorem INRow.rest {w : World} {b off n c : Nat} {l : List Int} (h : INRow w (.slice (some ⟨b, off, none⟩) n c) l) (k : Nat) (hk : k < l.length) (c' : Nat) : INRow w (.slice (some ⟨b, off + k, none⟩) (n - k) c') (l.drop k) := by
  rcases h with ⟨_, _, hv, rfl⟩ | ⟨b', off', c2, hv, h1, hc⟩
  · simp at hk
  · cases hv
    have hl : (l.drop k).length = l.length - k := List.length_drop
    refine .inr ⟨b, off + k, c', by rw [hl], h1, fun i hi => ?_⟩
    rw [hl] at hi
    have := hc (k + i) (by omega)
    rw [show off + (k + i) = off + k + i by omega] at this
    rwa [List.getD_eq_getElem?_getD, List.getElem?_drop, ← List.getD_eq_getElem?_getD]
theorem ints_append {o : Oper} {a : Act} {w : World} {K : Act → World → Prop} {Q : Exit → Act → World → Prop} (s x : Operand)
    (hop : o.op = Op.call { callee := Callee.builtin Builtin.append, args := #[s, x], argTypes := #[26, 26] }) (base : Nat) (v : Value) (n : Nat) (olds : List Value) (hs : a.eval s = v) (hown : w.ownsRow base 3 1 v n olds)
    (tv : Value) (l : List Int) (hx : a.eval x = tv) (ht : INRow w tv l) (hT : l.length ≤ 4000) (hn : n ≤ 4001) (hb : base ≤ w.heap.size)
    (hK : ∀ v' w', w'.ownsRow base 3 1 v' (n + l.length) (olds ++ l.map (Value.int .i64)) → w.grownBy w' v.ownBlock → (v'.ownBlock = v.ownBlock ∨ v'.ownBlock = some w.heap.size) → K (a.put o.dst v') w') : Oper.wp Tryz.prog o a w K Q := by
  obtain ⟨i0, hi, hz0, hz1, hz2⟩ := info_parts info_in1
  have h1c : ∀ u ∈ l.map (Value.int .i64), u.oneCell' = true := fun u hu => by
    obtain ⟨q, _, rfl⟩ := List.mem_map.1 hu; rfl
  have main : ∀ (ad : Addr) (c : Nat), tv = .slice (some ad) l.length c → (∀ j u, (l.map (Value.int .i64))[j]? = some u → w.cell? (ad.add j) = some u) → Oper.wp Tryz.prog o a w K Q := fun ad c h1 h2 =>
    append_at_wp s x 26 hop base 3 i0 (.int .i64 0) 1 8 Tryz.underlying26 hi hz0 hz1 hz2 rfl (by decide) v n olds hs hown ad l.length c (l.map (Value.int .i64)) (hx.trans h1) (by simp) h2 h1c (by unfold maxLen; omega) (by omega) hb hK
  rcases ht with ⟨a0, cap, rfl, rfl⟩ | ⟨b, off, cap, rfl, hb', hc⟩
  · cases a0 with
    | some ad => exact main ad cap rfl (fun j u h => by simp at h)
    | none =>
      have hrun : (Builtin.append_ #[26, 26] o.type #[v, .slice none 0 cap]).run Tryz.prog w = .ok v w := by
        rcases hown.2 with ⟨rfl, rfl⟩ | ⟨g, c', cur, rfl, _, _, hnc, _⟩
        · simp [Builtin.append_, run_underlying Tryz.underlying26, sizeOf, typeInfo, hi, Builtin.lenOf, Builtin.firstCells]
        · simp [Builtin.append_, run_underlying Tryz.underlying26, sizeOf, typeInfo, hi, Builtin.lenOf, Builtin.firstCells, hnc, storeCells]
      unfold Oper.wp
      simp [execOp, hop, resolve, invoke, builtin, hs, hx, hrun, Result.andThen]
      exact hK v w (by simpa using hown) (grown_reflP _ _) (.inl rfl)
  · refine main ⟨b, off, none⟩ cap rfl fun j u h => ?_
    rw [show (⟨b, off, none⟩ : Addr).add j = ⟨b, off + j, none⟩ by unfold Addr.add; split <;> simp_all]
    have hj : j < l.length := by have := (List.getElem?_eq_some_iff.1 h).1; simpa using this
    rw [hc j hj]
    rw [List.getElem?_map, List.getElem?_eq_getElem hj] at h
    rw [List.getD_eq_getElem?_getD, List.getElem?_eq_getElem hj]
    exact h
/-- The worlds and frames in add's last region. -/
def AddInv (W1 : World) (k n : Nat) (p : Int) (lv S1 S2 : Value) (xs1 xs2 : List Value) (u2 u3 u4 u6 u7 u8 u9 u10 u11 u12 u13 u14 u15 u16 u17 u18 u19 u20 u21 u22 u23 u24 u25 u26 u27 u28 u29 u30 u31 : Value) (listed : Array Bool) (a : Act) (w' : World) : Prop :=
  ∃ (l0 l1 l2 l3 l4 l5 l6 l7 l8 l9 l10 l11 : Bool) (A B : Nat) (V V2 V3 : Value), listed = #[l0, l1, l2, l3, l4, l5, l6, l7, l8, l9, l10, l11, false] ∧ a = { tmps := #[lv, .int .i64 p, u2, u3, u4, .int .i64 (k : Nat), u6, u7, u8, u9, u10, u11, u12, u13, u14, u15, u16, u17, u18, u19, pkIf l0 (.slice (some ⟨A, 0, none⟩) 0 0) (u20), pkIf l1 (lv) (u21), pkIf l2 (.int .i64 (k : Nat)) (u22), pkIf l3 (S1) (u23), pkIf l4 (V) (u24), pkIf l5 (.int .i64 p) (u25), pkIf l6 (.slice (some ⟨B, 0, none⟩) 1 1) (u26), pkIf l7 (V2) (u27), pkIf l8 (lv) (u28), pkIf l9 (.int .i64 (k : Nat)) (u29), pkIf l10 (S2) (u30), pkIf l11 (V3) (u31)], defers := [] } ∧ Below W1.heap.size W1 w' ∧
    (l0 = true → l4 = false → w'.ownsRow W1.heap.size 3 1 (.slice (some ⟨A, 0, none⟩) 0 0) 0 []) ∧ (l4 = true → l7 = false → w'.ownsRow W1.heap.size 3 1 V k xs1) ∧ (l7 = true → l11 = false → w'.ownsRow W1.heap.size 3 1 V2 (k + 1) (xs1 ++ [.int .i64 p])) ∧
    (l11 = true → w'.ownsRow W1.heap.size 3 1 V3 (k + 1 + n) (xs1 ++ [.int .i64 p] ++ xs2)) ∧ (l6 = true → l7 = false → w'.heap[B]? = some (.cells #[.int .i64 p] 3 (0, 0)) ∧ (l0 = true → l4 = false → A ≠ B) ∧ (l4 = true → V.ownBlock ≠ some B)) ∧
    (l4 = true → l0 = true) ∧ (l7 = true → l4 = true ∧ l6 = true) ∧ (l11 = true → l7 = true)
/-- A row of numbers of the function's own. -/
def OwI (w : World) (B : Nat) (v : Value) (l : List Int) : Prop := w.ownsRow B 3 1 v l.length (l.map (Value.int .i64))
theorem OwI.keep {A C : World} {B : Nat} {v : Value} {l : List Int} (h : OwI A B v l) (hb : Below A.heap.size A C) : OwI C B v l := ownBelow h hb
theorem OwI.row {w : World} {B : Nat} {v : Value} {l : List Int} (h : OwI w B v l) : INRow w v l := own_ints h
theorem OwI.cap {w : World} {B : Nat} {v : Value} {l : List Int} (h : OwI w B v l) : P2Cap v := ICap.of_own h
theorem OwI.base {w : World} {A B : Nat} {v : Value} {l : List Int} (h : OwI w A v l) (hb : B ≤ A) : OwI w B v l := by
  rcases h with ⟨h1, h2 | ⟨g, cap, cur, k1, k2, k3, k4⟩⟩
  · exact ⟨h1, .inl h2⟩
  · exact ⟨h1, .inr ⟨g, cap, cur, k1, Nat.le_trans hb k2, k3, k4⟩⟩
/-- What add returns. -/
def AddOut (L : List Int) (w : World) (e : Ending) (w' : World) : Prop := ∃ v, e = .returned v ∧ OwI w' w.heap.size v L ∧ Below w.heap.size w w'
set_option maxRecDepth 100000 in
set_option maxHeartbeats 8000000 in
theorem add_any (v : Value) (l : List Int) (p : Int) (w : World) (hv : INRow w v l) (hcap : P2Cap v) (hl : l.length ≤ 4000) :
    Calls Tryz.prog 72 #[v, .int .i64 p] w fun e w' => AddOut (addI l p) w e w' := by
  obtain ⟨la, cap, rfl, hc⟩ := hv.form
  have hnc : l.length ≤ cap := by
    obtain ⟨a0, n0, c0, hv0, h⟩ := hcap
    cases hv0; exact h
  have HC := Lib.hid hc
  have HV := Lib.hid hv
  have HLL := Lib.hid (show l.length ≤ 4000 ∧ l.length ≤ cap from ⟨hl, hnc⟩)
  have HAT := Lib.hid (fun k h1 h2 h3 => atI_eq (l := l) (p := p) (k := k) h1 h2 h3)
  have HPP : Hid (addI l p = l.take (atI l p) ++ p :: l.drop (atI l p)) := Lib.hid rfl
  obtain ⟨AT, hAT⟩ : ∃ q, atI l p = q := ⟨_, rfl⟩
  obtain ⟨PL, hPL⟩ : ∃ q, addI l p = q := ⟨_, rfl⟩
  rw [hAT] at HAT HPP
  rw [hPL] at HPP ⊢
  clear hv hc hl hnc hAT hPL
  obtain ⟨i0, hi0, hz0, hz1, hz2⟩ := info_parts info_in1
  have HB := Lib.hid (Below.refl w.heap.size w)
  go_enter Tryz.func72, Tryz.ntmps72
  go_wp2_with fail
  go_loopw [5] (fun i wr => ∃ (k : Nat), k ≤ l.length ∧ i = .int .i64 k ∧ Hid (∀ j, j < k → l.getD j 0 < p) ∧ Hid (Below w.heap.size w wr)) (fun i _ => l.length - (intOf i).toNat)
  case atStart => exact ⟨0, Nat.zero_le _, rfl, Lib.hid (fun j hj => by omega), HB⟩
  case round =>
    clear HB
    obtain ⟨k, hk, rfl, hN, HB⟩ := hrel
    by_cases hkl : k < l.length
    · obtain ⟨b, off, rfl, hb, ha⟩ := HC.out k hkl
      have e1 := (HB.out.cell (p := ⟨b, _, none⟩) hb).trans ha
      have hki : (k : Int) < l.length := by omega
      have hk0 : (0 : Int) ≤ k := by omega
      have HKL := Lib.hid hkl
      have hll := HLL.out
      have HNX : Hid (l.getD k 0 < p → ∀ j, j < k + 1 → l.getD j 0 < p) := Lib.hid (fun h j hj => by
        by_cases e : j = k
        · subst e; exact h
        · exact hN.out j (by omega))
      have HEX : Hid (¬ l.getD k 0 < p → AT = k) := Lib.hid (fun h => HAT.out k hk hN.out (fun _ => by omega))
      obtain ⟨x, hX⟩ : ∃ X, l.getD k 0 = X := ⟨_, rfl⟩
      rw [hX] at e1 HNX HEX
      clear hX ha hb
      by_cases g1 : x < p
      · have HN2 := Lib.hid (HNX.out g1)
        go_wp2_with fail
        go_roundw
        case rel => exact ⟨k + 1, HKL.out, by go_num, HN2, HB⟩
        case measure => have := HKL.out; simp [intOf]; omega
      · have HATK : Hid (AT = k) := Lib.hid (HEX.out g1)
        have hll := HLL.out
        have hkc : (k : Int) ≤ (cap : Int) := by omega
        have hkn : (k : Int) ≤ (l.length : Int) := by omega
        have hk0 : (0 : Int) ≤ k := by omega
        have HKL4 : Hid (k ≤ 4000) := Lib.hid (by omega)
        have HL1 : Hid ((l.take k).length ≤ 4000) := Lib.hid (by rw [List.length_take]; omega)
        have HL2 : Hid ((l.drop k).length ≤ 4000) := Lib.hid (by rw [List.length_drop]; omega)
        have HX1 : Hid ((l.take k).length = k) := Lib.hid (by rw [List.length_take]; omega)
        have HHK := Lib.hid hk
        go_wp2_with fail
        have hwd : Below wr.heap.size wr wr := Below.refl _ _
        have HW0 := Lib.hid ((Below.refl wr.heap.size wr).drew)
        have HWB := Lib.hid (HB.out.trans (hwd.mono HB.out.size))
        have HP1 : Hid (∀ w', Below wr.heap.size wr w' → INRow w' (.slice (some ⟨b, off, none⟩) k cap) (l.take k)) := Lib.hid (fun w' h => (HV.out.keep (HWB.out.trans (h.mono HWB.out.size))).cut k HHK.out)
        have HLAST : Hid (∀ (V3 : Value) (w9 : World), w9.ownsRow wr.heap.size 3 1 V3 (k + 1 + (l.drop k).length) ((l.take k).map (Value.int .i64) ++ [.int .i64 p] ++ (l.drop k).map (Value.int .i64)) → w9.ownsRow wr.heap.size 3 1 V3 PL.length (PL.map (Value.int .i64))) := Lib.hid (fun V3 w9 h => by
          have e : PL = l.take k ++ p :: l.drop k := by rw [HPP.out, HATK.out]
          have e1 : PL.length = k + 1 + (l.drop k).length := by rw [e, List.length_append, List.length_cons, HX1.out]; omega
          have e2 : PL.map (Value.int .i64) = (l.take k).map (Value.int .i64) ++ [.int .i64 p] ++ (l.drop k).map (Value.int .i64) := by rw [e, List.map_append, List.map_cons, List.append_assoc]; rfl
          rw [e1, e2]; exact h)
        clear hwd
        have HP2 : Hid (∀ w', Below wr.heap.size wr w' → INRow w' (.slice (some ⟨b, off + k, none⟩) (l.length - k) (cap - k)) (l.drop k)) := Lib.hid (fun w' h => (HV.out.keep (HWB.out.trans (h.mono HWB.out.size))).rest k HKL.out _)
        have hck : ¬ cap = k := by have := HKL.out; omega
        have hkl2 := HKL.out
        obtain ⟨ls1, hl1⟩ : ∃ q, l.take k = q := ⟨_, rfl⟩
        obtain ⟨ls2, hl2⟩ : ∃ q, l.drop k = q := ⟨_, rfl⟩
        obtain ⟨n2, hn2⟩ : ∃ q, ls2.length = q := ⟨_, rfl⟩
        obtain ⟨X1, hXX1⟩ : ∃ q, ls1.map (Value.int .i64) = q := ⟨_, rfl⟩
        obtain ⟨X2, hXX2⟩ : ∃ q, ls2.map (Value.int .i64) = q := ⟨_, rfl⟩
        rw [hl1] at HL1 HX1 HP1 HLAST
        rw [hl2] at HL2 HP2 HLAST
        rw [hn2, hXX1, hXX2] at HLAST
        have HXX1 := Lib.hid hXX1
        have HXX2 := Lib.hid hXX2
        have HN2 := Lib.hid hn2
        clear hl1 hl2 hn2 hXX1 hXX2
        refine wp_region_invtail 12 (by kernel_rfl) (by kernel_rfl) (by kernel_rfl) (by kernel_rfl) (of_decide_eq_true (by kernel_rfl)) (by kernel_rfl) (AddInv wr k n2 p (.slice (some ⟨b, off, none⟩) l.length cap) (.slice (some ⟨b, off, none⟩) k cap) ((.slice (some ⟨b, off + k, none⟩) (l.length - k) (cap - k))) X1 X2 _ _ _ _ _ _ _ _ _ _ _ _ _ _ _ _ _ _ _ _ _ _ _ _ _ _ _ _ _) ⟨false, false, false, false, false, false, false, false, false, false, false, false, 0, 0, undef, undef, undef, rfl, rfl, HW0.out, by simp, by simp, by simp, by simp, by simp, by simp, by simp, by simp⟩ ?hend ?hstep
        case hstep =>
          rintro listed a w' i ⟨l0, l1, l2, l3, l4, l5, l6, l7, l8, l9, l10, l11, A, B, V, V2, V3, rfl, rfl, hb, hA, hV, hV2, hV3, hB, k4, k7, k11⟩ hi hin
          obtain ⟨hf, o', ho', hp⟩ := mem_ready.1 hi
          clear hi
          skip
          obtain rfl | rfl | rfl | rfl | rfl | rfl | rfl | rfl | rfl | rfl | rfl | rfl : i = 0 ∨ i = 1 ∨ i = 2 ∨ i = 3 ∨ i = 4 ∨ i = 5 ∨ i = 6 ∨ i = 7 ∨ i = 8 ∨ i = 9 ∨ i = 10 ∨ i = 11 := by omega
          · obtain rfl : l0 = false := by simpa using hf
            obtain rfl : l4 = false := by
              cases l4 with
              | false => rfl
              | true => exact absurd (k4 rfl) (by decide)
            clear hp ho'
            unfold wpOp
            simp only [pkIf_true]
            go_simp
            exact .inl ⟨true, l1, l2, l3, false, l5, l6, l7, l8, l9, l10, l11, w'.heap.size, B, V, V2, V3, rfl, rfl, hb.alloc hb.size _, (fun _ _ => World.ownsRow_made w' #[] 0 hb.size (by unfold maxLen; omega) (by simp)), (fun h => by cases h), (fun h => by cases (k7 h).1), (fun h => by cases (k7 (k11 h)).1), (fun h1 h2 => ⟨(gNe _ _ _ (Nat.ne_of_lt (Array.getElem?_eq_some_iff.1 (hB h1 h2).1).1)).trans (hB h1 h2).1, (fun _ _ => (Nat.ne_of_lt (Array.getElem?_eq_some_iff.1 (hB h1 h2).1).1).symm), (fun h => by cases h)⟩), (fun h => by cases h), (fun h => by cases (k7 h).1), k11⟩
          · obtain rfl : l1 = false := by simpa using hf
            clear hp ho'
            unfold wpOp
            simp only [pkIf_true]
            go_simp
            exact .inl ⟨l0, true, l2, l3, l4, l5, l6, l7, l8, l9, l10, l11, A, B, V, V2, V3, rfl, rfl, hb, hA, hV, hV2, hV3, hB, k4, k7, k11⟩
          · obtain rfl : l2 = false := by simpa using hf
            clear hp ho'
            unfold wpOp
            simp only [pkIf_true]
            go_simp
            exact .inl ⟨l0, l1, true, l3, l4, l5, l6, l7, l8, l9, l10, l11, A, B, V, V2, V3, rfl, rfl, hb, hA, hV, hV2, hV3, hB, k4, k7, k11⟩
          · obtain rfl : l3 = false := by simpa using hf
            cases ho'
            obtain rfl : l1 = true := by simpa using hp ⟨1, .data⟩ (by simp) rfl
            obtain rfl : l2 = true := by simpa using hp ⟨2, .data⟩ (by simp) rfl
            clear hp
            unfold wpOp
            simp only [pkIf_true]
            go_simp
            exact .inl ⟨l0, true, true, true, l4, l5, l6, l7, l8, l9, l10, l11, A, B, V, V2, V3, rfl, rfl, hb, hA, hV, hV2, hV3, hB, k4, k7, k11⟩
          · obtain rfl : l4 = false := by simpa using hf
            obtain rfl : l7 = false := by
              cases l7 with
              | false => rfl
              | true => exact absurd ((k7 rfl).1) (by decide)
            cases ho'
            obtain rfl : l0 = true := by simpa using hp ⟨0, .data⟩ (by simp) rfl
            obtain rfl : l3 = true := by simpa using hp ⟨3, .data⟩ (by simp) rfl
            clear hp
            unfold wpOp
            simp only [pkIf_true, List.getElem?_toArray, List.getElem?_cons_succ, List.getElem?_cons_zero]
            refine ifWanted rfl (ints_append _ _ rfl wr.heap.size (.slice (some ⟨A, 0, none⟩) 0 0) 0 [] rfl (hA rfl rfl) (.slice (some ⟨b, off, none⟩) k cap) ls1 rfl (HP1.out w' hb) HL1.out (by omega) hb.size ?_)
            intro v' w9 hown hgr hat
            rw [Nat.zero_add, List.nil_append] at hown
            refine ⟨true, l1, l2, true, true, l5, l6, false, l8, l9, l10, l11, A, B, v', V2, V3, rfl, rfl, hb.grown hgr hb.size (fun j e => (World.ownsRow.lt (hA rfl rfl) j e).1), (fun _ h => by cases h), (fun _ _ => by rw [HX1.out, HXX1.out] at hown; exact hown), (fun h => by cases h), (fun h => by cases (k11 h)), (fun h1 _ => ⟨(hgr.block _ (Array.getElem?_eq_some_iff.1 (hB h1 rfl).1).1 (fun e => (hB h1 rfl).2.1 rfl rfl (by simpa [Value.ownBlock] using e.symm))).trans (hB h1 rfl).1, (fun _ h => by cases h), (fun _ e => ?_)⟩), (fun _ => rfl), (fun h => by cases h), k11⟩
            rcases hat with q | q
            · rw [q] at e; exact (hB h1 rfl).2.1 rfl rfl (by simpa [Value.ownBlock] using e)
            · rw [q] at e; cases e; exact Nat.lt_irrefl _ (Array.getElem?_eq_some_iff.1 (hB h1 rfl).1).1
          · obtain rfl : l5 = false := by simpa using hf
            clear hp ho'
            unfold wpOp
            simp only [pkIf_true]
            go_simp
            exact .inl ⟨l0, l1, l2, l3, l4, true, l6, l7, l8, l9, l10, l11, A, B, V, V2, V3, rfl, rfl, hb, hA, hV, hV2, hV3, hB, k4, k7, k11⟩
          · obtain rfl : l6 = false := by simpa using hf
            obtain rfl : l7 = false := by
              cases l7 with
              | false => rfl
              | true => exact absurd ((k7 rfl).2) (by decide)
            cases ho'
            obtain rfl : l5 = true := by simpa using hp ⟨5, .data⟩ (by simp) rfl
            clear hp
            unfold wpOp
            simp only [pkIf_true]
            go_simp
            exact .inl ⟨l0, l1, l2, l3, l4, true, true, false, l8, l9, l10, l11, A, w'.heap.size, V, V2, V3, rfl, rfl, hb.alloc hb.size _, (fun h1 h2 => (hA h1 h2).alloc _), (fun h1 h2 => (hV h1 h2).alloc _), (fun h => by cases h), (fun h => by cases (k11 h)), (fun _ _ => ⟨heap_alloc_new _ _, (fun h1 h2 => Nat.ne_of_lt (World.ownsRow.lt (hA h1 h2) A rfl).2), (fun h1 e => Nat.lt_irrefl _ (World.ownsRow.lt (hV h1 rfl) _ e).2)⟩), k4, (fun h => by cases h), k11⟩
          · obtain rfl : l7 = false := by simpa using hf
            obtain rfl : l11 = false := by
              cases l11 with
              | false => rfl
              | true => exact absurd (k11 rfl) (by decide)
            cases ho'
            obtain rfl : l4 = true := by simpa using hp ⟨4, .data⟩ (by simp) rfl
            obtain rfl : l6 = true := by simpa using hp ⟨6, .data⟩ (by simp) rfl
            clear hp
            unfold wpOp
            simp only [pkIf_true, List.getElem?_toArray, List.getElem?_cons_succ, List.getElem?_cons_zero]
            obtain ⟨f1, _, f3⟩ := hB rfl rfl
            refine ifWanted rfl (append_at_wp _ _ 26 rfl wr.heap.size 3 i0 (.int .i64 0) 1 8 Tryz.underlying26 hi0 hz0 hz1 hz2 rfl (by decide) V k X1 rfl (hV rfl rfl) ⟨B, 0, none⟩ 1 1 [.int .i64 p] rfl rfl (fun j u hu => cell_add f1 j u hu) (by simp [Value.oneCell']) (by unfold maxLen; have := HKL4.out; omega) (by have := HKL4.out; omega) hb.size ?_)
            intro v' w9 hown hgr hat
            exact ⟨l0, l1, l2, l3, true, l5, true, true, l8, l9, l10, false, A, B, V, v', V3, rfl, rfl, hb.grown hgr hb.size (fun j e => (World.ownsRow.lt (hV rfl rfl) j e).1), (fun _ h => by cases h), (fun _ h => by cases h), (fun _ _ => hown), (fun h => by cases h), (fun _ h => by cases h), (fun _ => by first | rfl | exact k4 rfl), (fun _ => ⟨rfl, rfl⟩), (fun h => by cases h)⟩
          · obtain rfl : l8 = false := by simpa using hf
            clear hp ho'
            unfold wpOp
            simp only [pkIf_true]
            go_simp
            exact .inl ⟨l0, l1, l2, l3, l4, l5, l6, l7, true, l9, l10, l11, A, B, V, V2, V3, rfl, rfl, hb, hA, hV, hV2, hV3, hB, k4, k7, k11⟩
          · obtain rfl : l9 = false := by simpa using hf
            clear hp ho'
            unfold wpOp
            simp only [pkIf_true]
            go_simp
            exact .inl ⟨l0, l1, l2, l3, l4, l5, l6, l7, l8, true, l10, l11, A, B, V, V2, V3, rfl, rfl, hb, hA, hV, hV2, hV3, hB, k4, k7, k11⟩
          · obtain rfl : l10 = false := by simpa using hf
            cases ho'
            obtain rfl : l8 = true := by simpa using hp ⟨8, .data⟩ (by simp) rfl
            obtain rfl : l9 = true := by simpa using hp ⟨9, .data⟩ (by simp) rfl
            clear hp
            unfold wpOp
            simp only [pkIf_true]
            go_simp
            exact .inl ⟨l0, l1, l2, l3, l4, l5, l6, l7, true, true, true, l11, A, B, V, V2, V3, rfl, rfl, hb, hA, hV, hV2, hV3, hB, k4, k7, k11⟩
          · obtain rfl : l11 = false := by simpa using hf
            cases ho'
            obtain rfl : l7 = true := by simpa using hp ⟨7, .data⟩ (by simp) rfl
            obtain rfl : l10 = true := by simpa using hp ⟨10, .data⟩ (by simp) rfl
            clear hp
            unfold wpOp
            simp only [pkIf_true, List.getElem?_toArray, List.getElem?_cons_succ, List.getElem?_cons_zero]
            refine ifWanted rfl (ints_append _ _ rfl wr.heap.size V2 (k + 1) (X1 ++ [.int .i64 p]) rfl (hV2 rfl rfl) (.slice (some ⟨b, off + k, none⟩) (l.length - k) (cap - k)) ls2 rfl (HP2.out w' hb) HL2.out (by have := HKL4.out; omega) hb.size ?_)
            intro v' w9 hown hgr hat
            exact ⟨l0, l1, l2, l3, l4, l5, l6, true, l8, l9, true, true, A, B, V, V2, v', rfl, rfl, hb.grown hgr hb.size (fun j e => (World.ownsRow.lt (hV2 rfl rfl) j e).1), (fun h1 h2 => by rw [(k7 rfl).1] at h2; cases h2), (fun h1 h2 => by cases h2), (fun _ h => by cases h), (fun _ => by rw [HN2.out, HXX2.out] at hown; exact hown), (fun h1 h2 => by cases h2), k4, k7, (fun _ => rfl)⟩
        case hend =>
          rintro listed a w9 ⟨l0, l1, l2, l3, l4, l5, l6, l7, l8, l9, l10, l11, A, B, V, V2, V3, rfl, rfl, hb, hA, hV, hV2, hV3, hB, k4, k7, k11⟩ hall
          have hal : l0 = true ∧ l1 = true ∧ l2 = true ∧ l3 = true ∧ l4 = true ∧ l5 = true ∧ l6 = true ∧ l7 = true ∧ l8 = true ∧ l9 = true ∧ l10 = true ∧ l11 = true := ⟨by simpa using hall 0 (by decide), by simpa using hall 1 (by decide), by simpa using hall 2 (by decide), by simpa using hall 3 (by decide), by simpa using hall 4 (by decide), by simpa using hall 5 (by decide), by simpa using hall 6 (by decide), by simpa using hall 7 (by decide), by simpa using hall 8 (by decide), by simpa using hall 9 (by decide), by simpa using hall 10 (by decide), by simpa using hall 11 (by decide)⟩
          obtain ⟨rfl, rfl, rfl, rfl, rfl, rfl, rfl, rfl, rfl, rfl, rfl, rfl⟩ := hal
          have HB9 := Lib.hid hb
          have HO9 := Lib.hid (hV3 rfl)
          simp only [pkIf_true, List.drop_succ_cons, List.drop_zero]
          clear hall hb hA hV hV2 hV3 hB k4 k7 k11
          go_wp2_with fail
          go_ret
          exact ⟨V3, rfl, OwI.base (HLAST.out V3 w9 HO9.out) HB.out.size, HWB.out.trans (HB9.out.mono HWB.out.size)⟩
    · have HATK : Hid (AT = k) := Lib.hid (HAT.out k hk hN.out (fun h => absurd h hkl))
      have HKL0 := Lib.hid (show l.length ≤ k by omega)
      cases la with
      | none =>
        have hll := HLL.out
        have hkc : (k : Int) ≤ (cap : Int) := by omega
        have hkn : (k : Int) ≤ (l.length : Int) := by omega
        have hk0 : (0 : Int) ≤ k := by omega
        have HKL4 : Hid (k ≤ 4000) := Lib.hid (by omega)
        have HL1 : Hid ((l.take k).length ≤ 4000) := Lib.hid (by rw [List.length_take]; omega)
        have HL2 : Hid ((l.drop k).length ≤ 4000) := Lib.hid (by rw [List.length_drop]; omega)
        have HX1 : Hid ((l.take k).length = k) := Lib.hid (by rw [List.length_take]; omega)
        have HHK := Lib.hid hk
        go_wp2_with fail
        have hwd : Below wr.heap.size wr wr := Below.refl _ _
        have HW0 := Lib.hid ((Below.refl wr.heap.size wr).drew)
        have HWB := Lib.hid (HB.out.trans (hwd.mono HB.out.size))
        have HP1 : Hid (∀ w', Below wr.heap.size wr w' → INRow w' (.slice none k cap) (l.take k)) := Lib.hid (fun w' h => (HV.out.keep (HWB.out.trans (h.mono HWB.out.size))).cut k HHK.out)
        have HLAST : Hid (∀ (V3 : Value) (w9 : World), w9.ownsRow wr.heap.size 3 1 V3 (k + 1 + (l.drop k).length) ((l.take k).map (Value.int .i64) ++ [.int .i64 p] ++ (l.drop k).map (Value.int .i64)) → w9.ownsRow wr.heap.size 3 1 V3 PL.length (PL.map (Value.int .i64))) := Lib.hid (fun V3 w9 h => by
          have e : PL = l.take k ++ p :: l.drop k := by rw [HPP.out, HATK.out]
          have e1 : PL.length = k + 1 + (l.drop k).length := by rw [e, List.length_append, List.length_cons, HX1.out]; omega
          have e2 : PL.map (Value.int .i64) = (l.take k).map (Value.int .i64) ++ [.int .i64 p] ++ (l.drop k).map (Value.int .i64) := by rw [e, List.map_append, List.map_cons, List.append_assoc]; rfl
          rw [e1, e2]; exact h)
        clear hwd
        have HP2 : Hid (∀ w', Below wr.heap.size wr w' → INRow w' (.slice none (l.length - k) (cap - k)) (l.drop k)) := Lib.hid (fun w' h => .inl ⟨_, _, by rw [show l.length - k = 0 by have := HKL0.out; omega], List.drop_eq_nil_of_le (by have := HKL0.out; omega)⟩)
        obtain ⟨ls1, hl1⟩ : ∃ q, l.take k = q := ⟨_, rfl⟩
        obtain ⟨ls2, hl2⟩ : ∃ q, l.drop k = q := ⟨_, rfl⟩
        obtain ⟨n2, hn2⟩ : ∃ q, ls2.length = q := ⟨_, rfl⟩
        obtain ⟨X1, hXX1⟩ : ∃ q, ls1.map (Value.int .i64) = q := ⟨_, rfl⟩
        obtain ⟨X2, hXX2⟩ : ∃ q, ls2.map (Value.int .i64) = q := ⟨_, rfl⟩
        rw [hl1] at HL1 HX1 HP1 HLAST
        rw [hl2] at HL2 HP2 HLAST
        rw [hn2, hXX1, hXX2] at HLAST
        have HXX1 := Lib.hid hXX1
        have HXX2 := Lib.hid hXX2
        have HN2 := Lib.hid hn2
        clear hl1 hl2 hn2 hXX1 hXX2
        refine wp_region_invtail 12 (by kernel_rfl) (by kernel_rfl) (by kernel_rfl) (by kernel_rfl) (of_decide_eq_true (by kernel_rfl)) (by kernel_rfl) (AddInv wr k n2 p (.slice none l.length cap) (.slice none k cap) ((.slice none (l.length - k) (cap - k))) X1 X2 _ _ _ _ _ _ _ _ _ _ _ _ _ _ _ _ _ _ _ _ _ _ _ _ _ _ _ _ _) ⟨false, false, false, false, false, false, false, false, false, false, false, false, 0, 0, undef, undef, undef, rfl, rfl, HW0.out, by simp, by simp, by simp, by simp, by simp, by simp, by simp, by simp⟩ ?hend ?hstep
        case hstep =>
          rintro listed a w' i ⟨l0, l1, l2, l3, l4, l5, l6, l7, l8, l9, l10, l11, A, B, V, V2, V3, rfl, rfl, hb, hA, hV, hV2, hV3, hB, k4, k7, k11⟩ hi hin
          obtain ⟨hf, o', ho', hp⟩ := mem_ready.1 hi
          clear hi
          skip
          obtain rfl | rfl | rfl | rfl | rfl | rfl | rfl | rfl | rfl | rfl | rfl | rfl : i = 0 ∨ i = 1 ∨ i = 2 ∨ i = 3 ∨ i = 4 ∨ i = 5 ∨ i = 6 ∨ i = 7 ∨ i = 8 ∨ i = 9 ∨ i = 10 ∨ i = 11 := by omega
          · obtain rfl : l0 = false := by simpa using hf
            obtain rfl : l4 = false := by
              cases l4 with
              | false => rfl
              | true => exact absurd (k4 rfl) (by decide)
            clear hp ho'
            unfold wpOp
            simp only [pkIf_true]
            go_simp
            exact .inl ⟨true, l1, l2, l3, false, l5, l6, l7, l8, l9, l10, l11, w'.heap.size, B, V, V2, V3, rfl, rfl, hb.alloc hb.size _, (fun _ _ => World.ownsRow_made w' #[] 0 hb.size (by unfold maxLen; omega) (by simp)), (fun h => by cases h), (fun h => by cases (k7 h).1), (fun h => by cases (k7 (k11 h)).1), (fun h1 h2 => ⟨(gNe _ _ _ (Nat.ne_of_lt (Array.getElem?_eq_some_iff.1 (hB h1 h2).1).1)).trans (hB h1 h2).1, (fun _ _ => (Nat.ne_of_lt (Array.getElem?_eq_some_iff.1 (hB h1 h2).1).1).symm), (fun h => by cases h)⟩), (fun h => by cases h), (fun h => by cases (k7 h).1), k11⟩
          · obtain rfl : l1 = false := by simpa using hf
            clear hp ho'
            unfold wpOp
            simp only [pkIf_true]
            go_simp
            exact .inl ⟨l0, true, l2, l3, l4, l5, l6, l7, l8, l9, l10, l11, A, B, V, V2, V3, rfl, rfl, hb, hA, hV, hV2, hV3, hB, k4, k7, k11⟩
          · obtain rfl : l2 = false := by simpa using hf
            clear hp ho'
            unfold wpOp
            simp only [pkIf_true]
            go_simp
            exact .inl ⟨l0, l1, true, l3, l4, l5, l6, l7, l8, l9, l10, l11, A, B, V, V2, V3, rfl, rfl, hb, hA, hV, hV2, hV3, hB, k4, k7, k11⟩
          · obtain rfl : l3 = false := by simpa using hf
            cases ho'
            obtain rfl : l1 = true := by simpa using hp ⟨1, .data⟩ (by simp) rfl
            obtain rfl : l2 = true := by simpa using hp ⟨2, .data⟩ (by simp) rfl
            clear hp
            unfold wpOp
            simp only [pkIf_true]
            go_simp
            exact .inl ⟨l0, true, true, true, l4, l5, l6, l7, l8, l9, l10, l11, A, B, V, V2, V3, rfl, rfl, hb, hA, hV, hV2, hV3, hB, k4, k7, k11⟩
          · obtain rfl : l4 = false := by simpa using hf
            obtain rfl : l7 = false := by
              cases l7 with
              | false => rfl
              | true => exact absurd ((k7 rfl).1) (by decide)
            cases ho'
            obtain rfl : l0 = true := by simpa using hp ⟨0, .data⟩ (by simp) rfl
            obtain rfl : l3 = true := by simpa using hp ⟨3, .data⟩ (by simp) rfl
            clear hp
            unfold wpOp
            simp only [pkIf_true, List.getElem?_toArray, List.getElem?_cons_succ, List.getElem?_cons_zero]
            refine ifWanted rfl (ints_append _ _ rfl wr.heap.size (.slice (some ⟨A, 0, none⟩) 0 0) 0 [] rfl (hA rfl rfl) (.slice none k cap) ls1 rfl (HP1.out w' hb) HL1.out (by omega) hb.size ?_)
            intro v' w9 hown hgr hat
            rw [Nat.zero_add, List.nil_append] at hown
            refine ⟨true, l1, l2, true, true, l5, l6, false, l8, l9, l10, l11, A, B, v', V2, V3, rfl, rfl, hb.grown hgr hb.size (fun j e => (World.ownsRow.lt (hA rfl rfl) j e).1), (fun _ h => by cases h), (fun _ _ => by rw [HX1.out, HXX1.out] at hown; exact hown), (fun h => by cases h), (fun h => by cases (k11 h)), (fun h1 _ => ⟨(hgr.block _ (Array.getElem?_eq_some_iff.1 (hB h1 rfl).1).1 (fun e => (hB h1 rfl).2.1 rfl rfl (by simpa [Value.ownBlock] using e.symm))).trans (hB h1 rfl).1, (fun _ h => by cases h), (fun _ e => ?_)⟩), (fun _ => rfl), (fun h => by cases h), k11⟩
            rcases hat with q | q
            · rw [q] at e; exact (hB h1 rfl).2.1 rfl rfl (by simpa [Value.ownBlock] using e)
            · rw [q] at e; cases e; exact Nat.lt_irrefl _ (Array.getElem?_eq_some_iff.1 (hB h1 rfl).1).1
          · obtain rfl : l5 = false := by simpa using hf
            clear hp ho'
            unfold wpOp
            simp only [pkIf_true]
            go_simp
            exact .inl ⟨l0, l1, l2, l3, l4, true, l6, l7, l8, l9, l10, l11, A, B, V, V2, V3, rfl, rfl, hb, hA, hV, hV2, hV3, hB, k4, k7, k11⟩
          · obtain rfl : l6 = false := by simpa using hf
            obtain rfl : l7 = false := by
              cases l7 with
              | false => rfl
              | true => exact absurd ((k7 rfl).2) (by decide)
            cases ho'
            obtain rfl : l5 = true := by simpa using hp ⟨5, .data⟩ (by simp) rfl
            clear hp
            unfold wpOp
            simp only [pkIf_true]
            go_simp
            exact .inl ⟨l0, l1, l2, l3, l4, true, true, false, l8, l9, l10, l11, A, w'.heap.size, V, V2, V3, rfl, rfl, hb.alloc hb.size _, (fun h1 h2 => (hA h1 h2).alloc _), (fun h1 h2 => (hV h1 h2).alloc _), (fun h => by cases h), (fun h => by cases (k11 h)), (fun _ _ => ⟨heap_alloc_new _ _, (fun h1 h2 => Nat.ne_of_lt (World.ownsRow.lt (hA h1 h2) A rfl).2), (fun h1 e => Nat.lt_irrefl _ (World.ownsRow.lt (hV h1 rfl) _ e).2)⟩), k4, (fun h => by cases h), k11⟩
          · obtain rfl : l7 = false := by simpa using hf
            obtain rfl : l11 = false := by
              cases l11 with
              | false => rfl
              | true => exact absurd (k11 rfl) (by decide)
            cases ho'
            obtain rfl : l4 = true := by simpa using hp ⟨4, .data⟩ (by simp) rfl
            obtain rfl : l6 = true := by simpa using hp ⟨6, .data⟩ (by simp) rfl
            clear hp
            unfold wpOp
            simp only [pkIf_true, List.getElem?_toArray, List.getElem?_cons_succ, List.getElem?_cons_zero]
            obtain ⟨f1, _, f3⟩ := hB rfl rfl
            refine ifWanted rfl (append_at_wp _ _ 26 rfl wr.heap.size 3 i0 (.int .i64 0) 1 8 Tryz.underlying26 hi0 hz0 hz1 hz2 rfl (by decide) V k X1 rfl (hV rfl rfl) ⟨B, 0, none⟩ 1 1 [.int .i64 p] rfl rfl (fun j u hu => cell_add f1 j u hu) (by simp [Value.oneCell']) (by unfold maxLen; have := HKL4.out; omega) (by have := HKL4.out; omega) hb.size ?_)
            intro v' w9 hown hgr hat
            exact ⟨l0, l1, l2, l3, true, l5, true, true, l8, l9, l10, false, A, B, V, v', V3, rfl, rfl, hb.grown hgr hb.size (fun j e => (World.ownsRow.lt (hV rfl rfl) j e).1), (fun _ h => by cases h), (fun _ h => by cases h), (fun _ _ => hown), (fun h => by cases h), (fun _ h => by cases h), (fun _ => by first | rfl | exact k4 rfl), (fun _ => ⟨rfl, rfl⟩), (fun h => by cases h)⟩
          · obtain rfl : l8 = false := by simpa using hf
            clear hp ho'
            unfold wpOp
            simp only [pkIf_true]
            go_simp
            exact .inl ⟨l0, l1, l2, l3, l4, l5, l6, l7, true, l9, l10, l11, A, B, V, V2, V3, rfl, rfl, hb, hA, hV, hV2, hV3, hB, k4, k7, k11⟩
          · obtain rfl : l9 = false := by simpa using hf
            clear hp ho'
            unfold wpOp
            simp only [pkIf_true]
            go_simp
            exact .inl ⟨l0, l1, l2, l3, l4, l5, l6, l7, l8, true, l10, l11, A, B, V, V2, V3, rfl, rfl, hb, hA, hV, hV2, hV3, hB, k4, k7, k11⟩
          · obtain rfl : l10 = false := by simpa using hf
            cases ho'
            obtain rfl : l8 = true := by simpa using hp ⟨8, .data⟩ (by simp) rfl
            obtain rfl : l9 = true := by simpa using hp ⟨9, .data⟩ (by simp) rfl
            clear hp
            unfold wpOp
            simp only [pkIf_true]
            go_simp
            exact .inl ⟨l0, l1, l2, l3, l4, l5, l6, l7, true, true, true, l11, A, B, V, V2, V3, rfl, rfl, hb, hA, hV, hV2, hV3, hB, k4, k7, k11⟩
          · obtain rfl : l11 = false := by simpa using hf
            cases ho'
            obtain rfl : l7 = true := by simpa using hp ⟨7, .data⟩ (by simp) rfl
            obtain rfl : l10 = true := by simpa using hp ⟨10, .data⟩ (by simp) rfl
            clear hp
            unfold wpOp
            simp only [pkIf_true, List.getElem?_toArray, List.getElem?_cons_succ, List.getElem?_cons_zero]
            refine ifWanted rfl (ints_append _ _ rfl wr.heap.size V2 (k + 1) (X1 ++ [.int .i64 p]) rfl (hV2 rfl rfl) (.slice none (l.length - k) (cap - k)) ls2 rfl (HP2.out w' hb) HL2.out (by have := HKL4.out; omega) hb.size ?_)
            intro v' w9 hown hgr hat
            exact ⟨l0, l1, l2, l3, l4, l5, l6, true, l8, l9, true, true, A, B, V, V2, v', rfl, rfl, hb.grown hgr hb.size (fun j e => (World.ownsRow.lt (hV2 rfl rfl) j e).1), (fun h1 h2 => by rw [(k7 rfl).1] at h2; cases h2), (fun h1 h2 => by cases h2), (fun _ h => by cases h), (fun _ => by rw [HN2.out, HXX2.out] at hown; exact hown), (fun h1 h2 => by cases h2), k4, k7, (fun _ => rfl)⟩
        case hend =>
          rintro listed a w9 ⟨l0, l1, l2, l3, l4, l5, l6, l7, l8, l9, l10, l11, A, B, V, V2, V3, rfl, rfl, hb, hA, hV, hV2, hV3, hB, k4, k7, k11⟩ hall
          have hal : l0 = true ∧ l1 = true ∧ l2 = true ∧ l3 = true ∧ l4 = true ∧ l5 = true ∧ l6 = true ∧ l7 = true ∧ l8 = true ∧ l9 = true ∧ l10 = true ∧ l11 = true := ⟨by simpa using hall 0 (by decide), by simpa using hall 1 (by decide), by simpa using hall 2 (by decide), by simpa using hall 3 (by decide), by simpa using hall 4 (by decide), by simpa using hall 5 (by decide), by simpa using hall 6 (by decide), by simpa using hall 7 (by decide), by simpa using hall 8 (by decide), by simpa using hall 9 (by decide), by simpa using hall 10 (by decide), by simpa using hall 11 (by decide)⟩
          obtain ⟨rfl, rfl, rfl, rfl, rfl, rfl, rfl, rfl, rfl, rfl, rfl, rfl⟩ := hal
          have HB9 := Lib.hid hb
          have HO9 := Lib.hid (hV3 rfl)
          simp only [pkIf_true, List.drop_succ_cons, List.drop_zero]
          clear hall hb hA hV hV2 hV3 hB k4 k7 k11
          go_wp2_with fail
          go_ret
          exact ⟨V3, rfl, OwI.base (HLAST.out V3 w9 HO9.out) HB.out.size, HWB.out.trans (HB9.out.mono HWB.out.size)⟩
      | some ad =>
        by_cases hck0 : cap = k
        · have hck : (cap = k) = True := by simpa using hck0
          clear hck0
          have hll := HLL.out
          have hkc : (k : Int) ≤ (cap : Int) := by omega
          have hkn : (k : Int) ≤ (l.length : Int) := by omega
          have hk0 : (0 : Int) ≤ k := by omega
          have HKL4 : Hid (k ≤ 4000) := Lib.hid (by omega)
          have HL1 : Hid ((l.take k).length ≤ 4000) := Lib.hid (by rw [List.length_take]; omega)
          have HL2 : Hid ((l.drop k).length ≤ 4000) := Lib.hid (by rw [List.length_drop]; omega)
          have HX1 : Hid ((l.take k).length = k) := Lib.hid (by rw [List.length_take]; omega)
          have HHK := Lib.hid hk
          go_wp2_with fail
          have hwd : Below wr.heap.size wr wr := Below.refl _ _
          have HW0 := Lib.hid ((Below.refl wr.heap.size wr).drew)
          have HWB := Lib.hid (HB.out.trans (hwd.mono HB.out.size))
          have HP1 : Hid (∀ w', Below wr.heap.size wr w' → INRow w' (.slice (some ad) k cap) (l.take k)) := Lib.hid (fun w' h => (HV.out.keep (HWB.out.trans (h.mono HWB.out.size))).cut k HHK.out)
          have HLAST : Hid (∀ (V3 : Value) (w9 : World), w9.ownsRow wr.heap.size 3 1 V3 (k + 1 + (l.drop k).length) ((l.take k).map (Value.int .i64) ++ [.int .i64 p] ++ (l.drop k).map (Value.int .i64)) → w9.ownsRow wr.heap.size 3 1 V3 PL.length (PL.map (Value.int .i64))) := Lib.hid (fun V3 w9 h => by
            have e : PL = l.take k ++ p :: l.drop k := by rw [HPP.out, HATK.out]
            have e1 : PL.length = k + 1 + (l.drop k).length := by rw [e, List.length_append, List.length_cons, HX1.out]; omega
            have e2 : PL.map (Value.int .i64) = (l.take k).map (Value.int .i64) ++ [.int .i64 p] ++ (l.drop k).map (Value.int .i64) := by rw [e, List.map_append, List.map_cons, List.append_assoc]; rfl
            rw [e1, e2]; exact h)
          clear hwd
          have HP2 : Hid (∀ w', Below wr.heap.size wr w' → INRow w' (.slice (some ad) (l.length - k) (cap - k)) (l.drop k)) := Lib.hid (fun w' h => .inl ⟨_, _, by rw [show l.length - k = 0 by have := HKL0.out; omega], List.drop_eq_nil_of_le (by have := HKL0.out; omega)⟩)
          obtain ⟨ls1, hl1⟩ : ∃ q, l.take k = q := ⟨_, rfl⟩
          obtain ⟨ls2, hl2⟩ : ∃ q, l.drop k = q := ⟨_, rfl⟩
          obtain ⟨n2, hn2⟩ : ∃ q, ls2.length = q := ⟨_, rfl⟩
          obtain ⟨X1, hXX1⟩ : ∃ q, ls1.map (Value.int .i64) = q := ⟨_, rfl⟩
          obtain ⟨X2, hXX2⟩ : ∃ q, ls2.map (Value.int .i64) = q := ⟨_, rfl⟩
          rw [hl1] at HL1 HX1 HP1 HLAST
          rw [hl2] at HL2 HP2 HLAST
          rw [hn2, hXX1, hXX2] at HLAST
          have HXX1 := Lib.hid hXX1
          have HXX2 := Lib.hid hXX2
          have HN2 := Lib.hid hn2
          clear hl1 hl2 hn2 hXX1 hXX2
          refine wp_region_invtail 12 (by kernel_rfl) (by kernel_rfl) (by kernel_rfl) (by kernel_rfl) (of_decide_eq_true (by kernel_rfl)) (by kernel_rfl) (AddInv wr k n2 p (.slice (some ad) l.length cap) (.slice (some ad) k cap) ((.slice (some ad) (l.length - k) (cap - k))) X1 X2 _ _ _ _ _ _ _ _ _ _ _ _ _ _ _ _ _ _ _ _ _ _ _ _ _ _ _ _ _) ⟨false, false, false, false, false, false, false, false, false, false, false, false, 0, 0, undef, undef, undef, rfl, rfl, HW0.out, by simp, by simp, by simp, by simp, by simp, by simp, by simp, by simp⟩ ?hend ?hstep
          case hstep =>
            rintro listed a w' i ⟨l0, l1, l2, l3, l4, l5, l6, l7, l8, l9, l10, l11, A, B, V, V2, V3, rfl, rfl, hb, hA, hV, hV2, hV3, hB, k4, k7, k11⟩ hi hin
            obtain ⟨hf, o', ho', hp⟩ := mem_ready.1 hi
            clear hi
            skip
            obtain rfl | rfl | rfl | rfl | rfl | rfl | rfl | rfl | rfl | rfl | rfl | rfl : i = 0 ∨ i = 1 ∨ i = 2 ∨ i = 3 ∨ i = 4 ∨ i = 5 ∨ i = 6 ∨ i = 7 ∨ i = 8 ∨ i = 9 ∨ i = 10 ∨ i = 11 := by omega
            · obtain rfl : l0 = false := by simpa using hf
              obtain rfl : l4 = false := by
                cases l4 with
                | false => rfl
                | true => exact absurd (k4 rfl) (by decide)
              clear hp ho'
              unfold wpOp
              simp only [pkIf_true]
              go_simp
              exact .inl ⟨true, l1, l2, l3, false, l5, l6, l7, l8, l9, l10, l11, w'.heap.size, B, V, V2, V3, rfl, rfl, hb.alloc hb.size _, (fun _ _ => World.ownsRow_made w' #[] 0 hb.size (by unfold maxLen; omega) (by simp)), (fun h => by cases h), (fun h => by cases (k7 h).1), (fun h => by cases (k7 (k11 h)).1), (fun h1 h2 => ⟨(gNe _ _ _ (Nat.ne_of_lt (Array.getElem?_eq_some_iff.1 (hB h1 h2).1).1)).trans (hB h1 h2).1, (fun _ _ => (Nat.ne_of_lt (Array.getElem?_eq_some_iff.1 (hB h1 h2).1).1).symm), (fun h => by cases h)⟩), (fun h => by cases h), (fun h => by cases (k7 h).1), k11⟩
            · obtain rfl : l1 = false := by simpa using hf
              clear hp ho'
              unfold wpOp
              simp only [pkIf_true]
              go_simp
              exact .inl ⟨l0, true, l2, l3, l4, l5, l6, l7, l8, l9, l10, l11, A, B, V, V2, V3, rfl, rfl, hb, hA, hV, hV2, hV3, hB, k4, k7, k11⟩
            · obtain rfl : l2 = false := by simpa using hf
              clear hp ho'
              unfold wpOp
              simp only [pkIf_true]
              go_simp
              exact .inl ⟨l0, l1, true, l3, l4, l5, l6, l7, l8, l9, l10, l11, A, B, V, V2, V3, rfl, rfl, hb, hA, hV, hV2, hV3, hB, k4, k7, k11⟩
            · obtain rfl : l3 = false := by simpa using hf
              cases ho'
              obtain rfl : l1 = true := by simpa using hp ⟨1, .data⟩ (by simp) rfl
              obtain rfl : l2 = true := by simpa using hp ⟨2, .data⟩ (by simp) rfl
              clear hp
              unfold wpOp
              simp only [pkIf_true]
              go_simp
              exact .inl ⟨l0, true, true, true, l4, l5, l6, l7, l8, l9, l10, l11, A, B, V, V2, V3, rfl, rfl, hb, hA, hV, hV2, hV3, hB, k4, k7, k11⟩
            · obtain rfl : l4 = false := by simpa using hf
              obtain rfl : l7 = false := by
                cases l7 with
                | false => rfl
                | true => exact absurd ((k7 rfl).1) (by decide)
              cases ho'
              obtain rfl : l0 = true := by simpa using hp ⟨0, .data⟩ (by simp) rfl
              obtain rfl : l3 = true := by simpa using hp ⟨3, .data⟩ (by simp) rfl
              clear hp
              unfold wpOp
              simp only [pkIf_true, List.getElem?_toArray, List.getElem?_cons_succ, List.getElem?_cons_zero]
              refine ifWanted rfl (ints_append _ _ rfl wr.heap.size (.slice (some ⟨A, 0, none⟩) 0 0) 0 [] rfl (hA rfl rfl) (.slice (some ad) k cap) ls1 rfl (HP1.out w' hb) HL1.out (by omega) hb.size ?_)
              intro v' w9 hown hgr hat
              rw [Nat.zero_add, List.nil_append] at hown
              refine ⟨true, l1, l2, true, true, l5, l6, false, l8, l9, l10, l11, A, B, v', V2, V3, rfl, rfl, hb.grown hgr hb.size (fun j e => (World.ownsRow.lt (hA rfl rfl) j e).1), (fun _ h => by cases h), (fun _ _ => by rw [HX1.out, HXX1.out] at hown; exact hown), (fun h => by cases h), (fun h => by cases (k11 h)), (fun h1 _ => ⟨(hgr.block _ (Array.getElem?_eq_some_iff.1 (hB h1 rfl).1).1 (fun e => (hB h1 rfl).2.1 rfl rfl (by simpa [Value.ownBlock] using e.symm))).trans (hB h1 rfl).1, (fun _ h => by cases h), (fun _ e => ?_)⟩), (fun _ => rfl), (fun h => by cases h), k11⟩
              rcases hat with q | q
              · rw [q] at e; exact (hB h1 rfl).2.1 rfl rfl (by simpa [Value.ownBlock] using e)
              · rw [q] at e; cases e; exact Nat.lt_irrefl _ (Array.getElem?_eq_some_iff.1 (hB h1 rfl).1).1
            · obtain rfl : l5 = false := by simpa using hf
              clear hp ho'
              unfold wpOp
              simp only [pkIf_true]
              go_simp
              exact .inl ⟨l0, l1, l2, l3, l4, true, l6, l7, l8, l9, l10, l11, A, B, V, V2, V3, rfl, rfl, hb, hA, hV, hV2, hV3, hB, k4, k7, k11⟩
            · obtain rfl : l6 = false := by simpa using hf
              obtain rfl : l7 = false := by
                cases l7 with
                | false => rfl
                | true => exact absurd ((k7 rfl).2) (by decide)
              cases ho'
              obtain rfl : l5 = true := by simpa using hp ⟨5, .data⟩ (by simp) rfl
              clear hp
              unfold wpOp
              simp only [pkIf_true]
              go_simp
              exact .inl ⟨l0, l1, l2, l3, l4, true, true, false, l8, l9, l10, l11, A, w'.heap.size, V, V2, V3, rfl, rfl, hb.alloc hb.size _, (fun h1 h2 => (hA h1 h2).alloc _), (fun h1 h2 => (hV h1 h2).alloc _), (fun h => by cases h), (fun h => by cases (k11 h)), (fun _ _ => ⟨heap_alloc_new _ _, (fun h1 h2 => Nat.ne_of_lt (World.ownsRow.lt (hA h1 h2) A rfl).2), (fun h1 e => Nat.lt_irrefl _ (World.ownsRow.lt (hV h1 rfl) _ e).2)⟩), k4, (fun h => by cases h), k11⟩
            · obtain rfl : l7 = false := by simpa using hf
              obtain rfl : l11 = false := by
                cases l11 with
                | false => rfl
                | true => exact absurd (k11 rfl) (by decide)
              cases ho'
              obtain rfl : l4 = true := by simpa using hp ⟨4, .data⟩ (by simp) rfl
              obtain rfl : l6 = true := by simpa using hp ⟨6, .data⟩ (by simp) rfl
              clear hp
              unfold wpOp
              simp only [pkIf_true, List.getElem?_toArray, List.getElem?_cons_succ, List.getElem?_cons_zero]
              obtain ⟨f1, _, f3⟩ := hB rfl rfl
              refine ifWanted rfl (append_at_wp _ _ 26 rfl wr.heap.size 3 i0 (.int .i64 0) 1 8 Tryz.underlying26 hi0 hz0 hz1 hz2 rfl (by decide) V k X1 rfl (hV rfl rfl) ⟨B, 0, none⟩ 1 1 [.int .i64 p] rfl rfl (fun j u hu => cell_add f1 j u hu) (by simp [Value.oneCell']) (by unfold maxLen; have := HKL4.out; omega) (by have := HKL4.out; omega) hb.size ?_)
              intro v' w9 hown hgr hat
              exact ⟨l0, l1, l2, l3, true, l5, true, true, l8, l9, l10, false, A, B, V, v', V3, rfl, rfl, hb.grown hgr hb.size (fun j e => (World.ownsRow.lt (hV rfl rfl) j e).1), (fun _ h => by cases h), (fun _ h => by cases h), (fun _ _ => hown), (fun h => by cases h), (fun _ h => by cases h), (fun _ => by first | rfl | exact k4 rfl), (fun _ => ⟨rfl, rfl⟩), (fun h => by cases h)⟩
            · obtain rfl : l8 = false := by simpa using hf
              clear hp ho'
              unfold wpOp
              simp only [pkIf_true]
              go_simp
              exact .inl ⟨l0, l1, l2, l3, l4, l5, l6, l7, true, l9, l10, l11, A, B, V, V2, V3, rfl, rfl, hb, hA, hV, hV2, hV3, hB, k4, k7, k11⟩
            · obtain rfl : l9 = false := by simpa using hf
              clear hp ho'
              unfold wpOp
              simp only [pkIf_true]
              go_simp
              exact .inl ⟨l0, l1, l2, l3, l4, l5, l6, l7, l8, true, l10, l11, A, B, V, V2, V3, rfl, rfl, hb, hA, hV, hV2, hV3, hB, k4, k7, k11⟩
            · obtain rfl : l10 = false := by simpa using hf
              cases ho'
              obtain rfl : l8 = true := by simpa using hp ⟨8, .data⟩ (by simp) rfl
              obtain rfl : l9 = true := by simpa using hp ⟨9, .data⟩ (by simp) rfl
              clear hp
              unfold wpOp
              simp only [pkIf_true]
              go_simp
              exact .inl ⟨l0, l1, l2, l3, l4, l5, l6, l7, true, true, true, l11, A, B, V, V2, V3, rfl, rfl, hb, hA, hV, hV2, hV3, hB, k4, k7, k11⟩
            · obtain rfl : l11 = false := by simpa using hf
              cases ho'
              obtain rfl : l7 = true := by simpa using hp ⟨7, .data⟩ (by simp) rfl
              obtain rfl : l10 = true := by simpa using hp ⟨10, .data⟩ (by simp) rfl
              clear hp
              unfold wpOp
              simp only [pkIf_true, List.getElem?_toArray, List.getElem?_cons_succ, List.getElem?_cons_zero]
              refine ifWanted rfl (ints_append _ _ rfl wr.heap.size V2 (k + 1) (X1 ++ [.int .i64 p]) rfl (hV2 rfl rfl) (.slice (some ad) (l.length - k) (cap - k)) ls2 rfl (HP2.out w' hb) HL2.out (by have := HKL4.out; omega) hb.size ?_)
              intro v' w9 hown hgr hat
              exact ⟨l0, l1, l2, l3, l4, l5, l6, true, l8, l9, true, true, A, B, V, V2, v', rfl, rfl, hb.grown hgr hb.size (fun j e => (World.ownsRow.lt (hV2 rfl rfl) j e).1), (fun h1 h2 => by rw [(k7 rfl).1] at h2; cases h2), (fun h1 h2 => by cases h2), (fun _ h => by cases h), (fun _ => by rw [HN2.out, HXX2.out] at hown; exact hown), (fun h1 h2 => by cases h2), k4, k7, (fun _ => rfl)⟩
          case hend =>
            rintro listed a w9 ⟨l0, l1, l2, l3, l4, l5, l6, l7, l8, l9, l10, l11, A, B, V, V2, V3, rfl, rfl, hb, hA, hV, hV2, hV3, hB, k4, k7, k11⟩ hall
            have hal : l0 = true ∧ l1 = true ∧ l2 = true ∧ l3 = true ∧ l4 = true ∧ l5 = true ∧ l6 = true ∧ l7 = true ∧ l8 = true ∧ l9 = true ∧ l10 = true ∧ l11 = true := ⟨by simpa using hall 0 (by decide), by simpa using hall 1 (by decide), by simpa using hall 2 (by decide), by simpa using hall 3 (by decide), by simpa using hall 4 (by decide), by simpa using hall 5 (by decide), by simpa using hall 6 (by decide), by simpa using hall 7 (by decide), by simpa using hall 8 (by decide), by simpa using hall 9 (by decide), by simpa using hall 10 (by decide), by simpa using hall 11 (by decide)⟩
            obtain ⟨rfl, rfl, rfl, rfl, rfl, rfl, rfl, rfl, rfl, rfl, rfl, rfl⟩ := hal
            have HB9 := Lib.hid hb
            have HO9 := Lib.hid (hV3 rfl)
            simp only [pkIf_true, List.drop_succ_cons, List.drop_zero]
            clear hall hb hA hV hV2 hV3 hB k4 k7 k11
            go_wp2_with fail
            go_ret
            exact ⟨V3, rfl, OwI.base (HLAST.out V3 w9 HO9.out) HB.out.size, HWB.out.trans (HB9.out.mono HWB.out.size)⟩
        · have hck := hck0
          have hll := HLL.out
          have hkc : (k : Int) ≤ (cap : Int) := by omega
          have hkn : (k : Int) ≤ (l.length : Int) := by omega
          have hk0 : (0 : Int) ≤ k := by omega
          have HKL4 : Hid (k ≤ 4000) := Lib.hid (by omega)
          have HL1 : Hid ((l.take k).length ≤ 4000) := Lib.hid (by rw [List.length_take]; omega)
          have HL2 : Hid ((l.drop k).length ≤ 4000) := Lib.hid (by rw [List.length_drop]; omega)
          have HX1 : Hid ((l.take k).length = k) := Lib.hid (by rw [List.length_take]; omega)
          have HHK := Lib.hid hk
          go_wp2_with fail
          have hwd : Below wr.heap.size wr wr := Below.refl _ _
          have HW0 := Lib.hid ((Below.refl wr.heap.size wr).drew)
          have HWB := Lib.hid (HB.out.trans (hwd.mono HB.out.size))
          have HP1 : Hid (∀ w', Below wr.heap.size wr w' → INRow w' (.slice (some ad) k cap) (l.take k)) := Lib.hid (fun w' h => (HV.out.keep (HWB.out.trans (h.mono HWB.out.size))).cut k HHK.out)
          have HLAST : Hid (∀ (V3 : Value) (w9 : World), w9.ownsRow wr.heap.size 3 1 V3 (k + 1 + (l.drop k).length) ((l.take k).map (Value.int .i64) ++ [.int .i64 p] ++ (l.drop k).map (Value.int .i64)) → w9.ownsRow wr.heap.size 3 1 V3 PL.length (PL.map (Value.int .i64))) := Lib.hid (fun V3 w9 h => by
            have e : PL = l.take k ++ p :: l.drop k := by rw [HPP.out, HATK.out]
            have e1 : PL.length = k + 1 + (l.drop k).length := by rw [e, List.length_append, List.length_cons, HX1.out]; omega
            have e2 : PL.map (Value.int .i64) = (l.take k).map (Value.int .i64) ++ [.int .i64 p] ++ (l.drop k).map (Value.int .i64) := by rw [e, List.map_append, List.map_cons, List.append_assoc]; rfl
            rw [e1, e2]; exact h)
          clear hwd
          have HP2 : Hid (∀ w', Below wr.heap.size wr w' → INRow w' (.slice (some (ad.add k)) (l.length - k) (cap - k)) (l.drop k)) := Lib.hid (fun w' h => .inl ⟨_, _, by rw [show l.length - k = 0 by have := HKL0.out; omega], List.drop_eq_nil_of_le (by have := HKL0.out; omega)⟩)
          obtain ⟨ls1, hl1⟩ : ∃ q, l.take k = q := ⟨_, rfl⟩
          obtain ⟨ls2, hl2⟩ : ∃ q, l.drop k = q := ⟨_, rfl⟩
          obtain ⟨n2, hn2⟩ : ∃ q, ls2.length = q := ⟨_, rfl⟩
          obtain ⟨X1, hXX1⟩ : ∃ q, ls1.map (Value.int .i64) = q := ⟨_, rfl⟩
          obtain ⟨X2, hXX2⟩ : ∃ q, ls2.map (Value.int .i64) = q := ⟨_, rfl⟩
          rw [hl1] at HL1 HX1 HP1 HLAST
          rw [hl2] at HL2 HP2 HLAST
          rw [hn2, hXX1, hXX2] at HLAST
          have HXX1 := Lib.hid hXX1
          have HXX2 := Lib.hid hXX2
          have HN2 := Lib.hid hn2
          clear hl1 hl2 hn2 hXX1 hXX2
          refine wp_region_invtail 12 (by kernel_rfl) (by kernel_rfl) (by kernel_rfl) (by kernel_rfl) (of_decide_eq_true (by kernel_rfl)) (by kernel_rfl) (AddInv wr k n2 p (.slice (some ad) l.length cap) (.slice (some ad) k cap) ((.slice (some (ad.add k)) (l.length - k) (cap - k))) X1 X2 _ _ _ _ _ _ _ _ _ _ _ _ _ _ _ _ _ _ _ _ _ _ _ _ _ _ _ _ _) ⟨false, false, false, false, false, false, false, false, false, false, false, false, 0, 0, undef, undef, undef, rfl, rfl, HW0.out, by simp, by simp, by simp, by simp, by simp, by simp, by simp, by simp⟩ ?hend ?hstep
          case hstep =>
            rintro listed a w' i ⟨l0, l1, l2, l3, l4, l5, l6, l7, l8, l9, l10, l11, A, B, V, V2, V3, rfl, rfl, hb, hA, hV, hV2, hV3, hB, k4, k7, k11⟩ hi hin
            obtain ⟨hf, o', ho', hp⟩ := mem_ready.1 hi
            clear hi
            skip
            obtain rfl | rfl | rfl | rfl | rfl | rfl | rfl | rfl | rfl | rfl | rfl | rfl : i = 0 ∨ i = 1 ∨ i = 2 ∨ i = 3 ∨ i = 4 ∨ i = 5 ∨ i = 6 ∨ i = 7 ∨ i = 8 ∨ i = 9 ∨ i = 10 ∨ i = 11 := by omega
            · obtain rfl : l0 = false := by simpa using hf
              obtain rfl : l4 = false := by
                cases l4 with
                | false => rfl
                | true => exact absurd (k4 rfl) (by decide)
              clear hp ho'
              unfold wpOp
              simp only [pkIf_true]
              go_simp
              exact .inl ⟨true, l1, l2, l3, false, l5, l6, l7, l8, l9, l10, l11, w'.heap.size, B, V, V2, V3, rfl, rfl, hb.alloc hb.size _, (fun _ _ => World.ownsRow_made w' #[] 0 hb.size (by unfold maxLen; omega) (by simp)), (fun h => by cases h), (fun h => by cases (k7 h).1), (fun h => by cases (k7 (k11 h)).1), (fun h1 h2 => ⟨(gNe _ _ _ (Nat.ne_of_lt (Array.getElem?_eq_some_iff.1 (hB h1 h2).1).1)).trans (hB h1 h2).1, (fun _ _ => (Nat.ne_of_lt (Array.getElem?_eq_some_iff.1 (hB h1 h2).1).1).symm), (fun h => by cases h)⟩), (fun h => by cases h), (fun h => by cases (k7 h).1), k11⟩
            · obtain rfl : l1 = false := by simpa using hf
              clear hp ho'
              unfold wpOp
              simp only [pkIf_true]
              go_simp
              exact .inl ⟨l0, true, l2, l3, l4, l5, l6, l7, l8, l9, l10, l11, A, B, V, V2, V3, rfl, rfl, hb, hA, hV, hV2, hV3, hB, k4, k7, k11⟩
            · obtain rfl : l2 = false := by simpa using hf
              clear hp ho'
              unfold wpOp
              simp only [pkIf_true]
              go_simp
              exact .inl ⟨l0, l1, true, l3, l4, l5, l6, l7, l8, l9, l10, l11, A, B, V, V2, V3, rfl, rfl, hb, hA, hV, hV2, hV3, hB, k4, k7, k11⟩
            · obtain rfl : l3 = false := by simpa using hf
              cases ho'
              obtain rfl : l1 = true := by simpa using hp ⟨1, .data⟩ (by simp) rfl
              obtain rfl : l2 = true := by simpa using hp ⟨2, .data⟩ (by simp) rfl
              clear hp
              unfold wpOp
              simp only [pkIf_true]
              go_simp
              exact .inl ⟨l0, true, true, true, l4, l5, l6, l7, l8, l9, l10, l11, A, B, V, V2, V3, rfl, rfl, hb, hA, hV, hV2, hV3, hB, k4, k7, k11⟩
            · obtain rfl : l4 = false := by simpa using hf
              obtain rfl : l7 = false := by
                cases l7 with
                | false => rfl
                | true => exact absurd ((k7 rfl).1) (by decide)
              cases ho'
              obtain rfl : l0 = true := by simpa using hp ⟨0, .data⟩ (by simp) rfl
              obtain rfl : l3 = true := by simpa using hp ⟨3, .data⟩ (by simp) rfl
              clear hp
              unfold wpOp
              simp only [pkIf_true, List.getElem?_toArray, List.getElem?_cons_succ, List.getElem?_cons_zero]
              refine ifWanted rfl (ints_append _ _ rfl wr.heap.size (.slice (some ⟨A, 0, none⟩) 0 0) 0 [] rfl (hA rfl rfl) (.slice (some ad) k cap) ls1 rfl (HP1.out w' hb) HL1.out (by omega) hb.size ?_)
              intro v' w9 hown hgr hat
              rw [Nat.zero_add, List.nil_append] at hown
              refine ⟨true, l1, l2, true, true, l5, l6, false, l8, l9, l10, l11, A, B, v', V2, V3, rfl, rfl, hb.grown hgr hb.size (fun j e => (World.ownsRow.lt (hA rfl rfl) j e).1), (fun _ h => by cases h), (fun _ _ => by rw [HX1.out, HXX1.out] at hown; exact hown), (fun h => by cases h), (fun h => by cases (k11 h)), (fun h1 _ => ⟨(hgr.block _ (Array.getElem?_eq_some_iff.1 (hB h1 rfl).1).1 (fun e => (hB h1 rfl).2.1 rfl rfl (by simpa [Value.ownBlock] using e.symm))).trans (hB h1 rfl).1, (fun _ h => by cases h), (fun _ e => ?_)⟩), (fun _ => rfl), (fun h => by cases h), k11⟩
              rcases hat with q | q
              · rw [q] at e; exact (hB h1 rfl).2.1 rfl rfl (by simpa [Value.ownBlock] using e)
              · rw [q] at e; cases e; exact Nat.lt_irrefl _ (Array.getElem?_eq_some_iff.1 (hB h1 rfl).1).1
            · obtain rfl : l5 = false := by simpa using hf
              clear hp ho'
              unfold wpOp
              simp only [pkIf_true]
              go_simp
              exact .inl ⟨l0, l1, l2, l3, l4, true, l6, l7, l8, l9, l10, l11, A, B, V, V2, V3, rfl, rfl, hb, hA, hV, hV2, hV3, hB, k4, k7, k11⟩
            · obtain rfl : l6 = false := by simpa using hf
              obtain rfl : l7 = false := by
                cases l7 with
                | false => rfl
                | true => exact absurd ((k7 rfl).2) (by decide)
              cases ho'
              obtain rfl : l5 = true := by simpa using hp ⟨5, .data⟩ (by simp) rfl
              clear hp
              unfold wpOp
              simp only [pkIf_true]
              go_simp
              exact .inl ⟨l0, l1, l2, l3, l4, true, true, false, l8, l9, l10, l11, A, w'.heap.size, V, V2, V3, rfl, rfl, hb.alloc hb.size _, (fun h1 h2 => (hA h1 h2).alloc _), (fun h1 h2 => (hV h1 h2).alloc _), (fun h => by cases h), (fun h => by cases (k11 h)), (fun _ _ => ⟨heap_alloc_new _ _, (fun h1 h2 => Nat.ne_of_lt (World.ownsRow.lt (hA h1 h2) A rfl).2), (fun h1 e => Nat.lt_irrefl _ (World.ownsRow.lt (hV h1 rfl) _ e).2)⟩), k4, (fun h => by cases h), k11⟩
            · obtain rfl : l7 = false := by simpa using hf
              obtain rfl : l11 = false := by
                cases l11 with
                | false => rfl
                | true => exact absurd (k11 rfl) (by decide)
              cases ho'
              obtain rfl : l4 = true := by simpa using hp ⟨4, .data⟩ (by simp) rfl
              obtain rfl : l6 = true := by simpa using hp ⟨6, .data⟩ (by simp) rfl
              clear hp
              unfold wpOp
              simp only [pkIf_true, List.getElem?_toArray, List.getElem?_cons_succ, List.getElem?_cons_zero]
              obtain ⟨f1, _, f3⟩ := hB rfl rfl
              refine ifWanted rfl (append_at_wp _ _ 26 rfl wr.heap.size 3 i0 (.int .i64 0) 1 8 Tryz.underlying26 hi0 hz0 hz1 hz2 rfl (by decide) V k X1 rfl (hV rfl rfl) ⟨B, 0, none⟩ 1 1 [.int .i64 p] rfl rfl (fun j u hu => cell_add f1 j u hu) (by simp [Value.oneCell']) (by unfold maxLen; have := HKL4.out; omega) (by have := HKL4.out; omega) hb.size ?_)
              intro v' w9 hown hgr hat
              exact ⟨l0, l1, l2, l3, true, l5, true, true, l8, l9, l10, false, A, B, V, v', V3, rfl, rfl, hb.grown hgr hb.size (fun j e => (World.ownsRow.lt (hV rfl rfl) j e).1), (fun _ h => by cases h), (fun _ h => by cases h), (fun _ _ => hown), (fun h => by cases h), (fun _ h => by cases h), (fun _ => by first | rfl | exact k4 rfl), (fun _ => ⟨rfl, rfl⟩), (fun h => by cases h)⟩
            · obtain rfl : l8 = false := by simpa using hf
              clear hp ho'
              unfold wpOp
              simp only [pkIf_true]
              go_simp
              exact .inl ⟨l0, l1, l2, l3, l4, l5, l6, l7, true, l9, l10, l11, A, B, V, V2, V3, rfl, rfl, hb, hA, hV, hV2, hV3, hB, k4, k7, k11⟩
            · obtain rfl : l9 = false := by simpa using hf
              clear hp ho'
              unfold wpOp
              simp only [pkIf_true]
              go_simp
              exact .inl ⟨l0, l1, l2, l3, l4, l5, l6, l7, l8, true, l10, l11, A, B, V, V2, V3, rfl, rfl, hb, hA, hV, hV2, hV3, hB, k4, k7, k11⟩
            · obtain rfl : l10 = false := by simpa using hf
              cases ho'
              obtain rfl : l8 = true := by simpa using hp ⟨8, .data⟩ (by simp) rfl
              obtain rfl : l9 = true := by simpa using hp ⟨9, .data⟩ (by simp) rfl
              clear hp
              unfold wpOp
              simp only [pkIf_true]
              go_simp
              exact .inl ⟨l0, l1, l2, l3, l4, l5, l6, l7, true, true, true, l11, A, B, V, V2, V3, rfl, rfl, hb, hA, hV, hV2, hV3, hB, k4, k7, k11⟩
            · obtain rfl : l11 = false := by simpa using hf
              cases ho'
              obtain rfl : l7 = true := by simpa using hp ⟨7, .data⟩ (by simp) rfl
              obtain rfl : l10 = true := by simpa using hp ⟨10, .data⟩ (by simp) rfl
              clear hp
              unfold wpOp
              simp only [pkIf_true, List.getElem?_toArray, List.getElem?_cons_succ, List.getElem?_cons_zero]
              refine ifWanted rfl (ints_append _ _ rfl wr.heap.size V2 (k + 1) (X1 ++ [.int .i64 p]) rfl (hV2 rfl rfl) (.slice (some (ad.add k)) (l.length - k) (cap - k)) ls2 rfl (HP2.out w' hb) HL2.out (by have := HKL4.out; omega) hb.size ?_)
              intro v' w9 hown hgr hat
              exact ⟨l0, l1, l2, l3, l4, l5, l6, true, l8, l9, true, true, A, B, V, V2, v', rfl, rfl, hb.grown hgr hb.size (fun j e => (World.ownsRow.lt (hV2 rfl rfl) j e).1), (fun h1 h2 => by rw [(k7 rfl).1] at h2; cases h2), (fun h1 h2 => by cases h2), (fun _ h => by cases h), (fun _ => by rw [HN2.out, HXX2.out] at hown; exact hown), (fun h1 h2 => by cases h2), k4, k7, (fun _ => rfl)⟩
          case hend =>
            rintro listed a w9 ⟨l0, l1, l2, l3, l4, l5, l6, l7, l8, l9, l10, l11, A, B, V, V2, V3, rfl, rfl, hb, hA, hV, hV2, hV3, hB, k4, k7, k11⟩ hall
            have hal : l0 = true ∧ l1 = true ∧ l2 = true ∧ l3 = true ∧ l4 = true ∧ l5 = true ∧ l6 = true ∧ l7 = true ∧ l8 = true ∧ l9 = true ∧ l10 = true ∧ l11 = true := ⟨by simpa using hall 0 (by decide), by simpa using hall 1 (by decide), by simpa using hall 2 (by decide), by simpa using hall 3 (by decide), by simpa using hall 4 (by decide), by simpa using hall 5 (by decide), by simpa using hall 6 (by decide), by simpa using hall 7 (by decide), by simpa using hall 8 (by decide), by simpa using hall 9 (by decide), by simpa using hall 10 (by decide), by simpa using hall 11 (by decide)⟩
            obtain ⟨rfl, rfl, rfl, rfl, rfl, rfl, rfl, rfl, rfl, rfl, rfl, rfl⟩ := hal
            have HB9 := Lib.hid hb
            have HO9 := Lib.hid (hV3 rfl)
            simp only [pkIf_true, List.drop_succ_cons, List.drop_zero]
            clear hall hb hA hV hV2 hV3 hB k4 k7 k11
            go_wp2_with fail
            go_ret
            exact ⟨V3, rfl, OwI.base (HLAST.out V3 w9 HO9.out) HB.out.size, HWB.out.trans (HB9.out.mono HWB.out.size)⟩
end Go.Proofs.YtebdboacmeafaaaGreat
