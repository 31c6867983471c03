/- Package firetowerref05: put. -/
import Derived.Test.YtebdboacmeafaaaCDC
import Derived.Test.YtebdboacmeafaaaCD9
import Derived.Test.YtebdboacmeafaaaCEA
import Derived.Test.YtebdboacmeafaaaCB8
set_option linter.unusedVariables false
set_option linter.unusedSimpArgs false
namespace Go.Proofs.Ytebdboacmeafaaa
open Go Go.RowKit

/-- A pair stands ahead of another one. -/
def ltP (a b : Pi2) : Bool := decide (a.1 < b.1) || (a.1 == b.1 && decide (a.2 < b.2))
/-- How many pairs at a list's beginning stand ahead of a pair. -/
def atP (l : List Pi2) (p : Pi2) : Nat := (l.takeWhile fun a => ltP a p).length
/-- A pair put into a list. -/
def putP (l : List Pi2) (p : Pi2) : List Pi2 := l.take (atP l p) ++ p :: l.drop (atP l p)
theorem atP_le (l : List Pi2) (p : Pi2) : atP l p ≤ l.length := by
  unfold atP
  induction l with
  | nil => simp
  | cons a l ih => rw [List.takeWhile_cons]; split <;> simp; omega
theorem atP_eq : ∀ {l : List Pi2} {p : Pi2} {k : Nat}, k ≤ l.length → (∀ j, j < k → ltP (l.getD j (0, 0)) p = true) → (k < l.length → ltP (l.getD k (0, 0)) p = false) → atP l p = k
  | [], p, k, hk, _, _ => by simp at hk; subst hk; rfl
  | a :: l, p, 0, _, _, h2 => by
    have h := h2 (by simp)
    have h' : ltP a p = false := h
    unfold atP
    rw [List.takeWhile_cons, h']; rfl
  | a :: l, p, k + 1, hk, h1, h2 => by
    have h0 : ltP a p = true := h1 0 (by omega)
    have ih := atP_eq (l := l) (p := p) (k := k) (by simpa using hk) (fun j hj => h1 (j + 1) (by omega)) (fun h => h2 (by simpa using h))
    unfold atP at ih ⊢
    rw [List.takeWhile_cons, h0]
    simp only [if_true, List.length_cons, ih]
theorem putP_len (l : List Pi2) (p : Pi2) : (putP l p).length = l.length + 1 := by
  have := atP_le l p
  unfold putP
  rw [List.length_append, List.length_cons, List.length_take, List.length_drop]
  omega
/-- A row's value has room for its elements. -/
def P2Cap (v : Value) : Prop := ∃ a n c, v = .slice a n c ∧ n ≤ c
theorem P2Cap.of_own {w : World} {base : Nat} {v : Value} {n : Nat} {xs : List Value} (h : w.ownsRow base 79 2 v n xs) : P2Cap v := by
  rcases h.2 with ⟨h1, h2⟩ | ⟨nb, nc, cur, e1, e2, e3, e4, e5, e6, e7⟩
  · exact ⟨_, _, _, h1, Nat.le_refl _⟩
  · exact ⟨_, _, _, e1, e4⟩
theorem P2Row.cut {w : World} {a : Option Addr} {n c : Nat} {l : List Pi2} (h : P2Row w (.slice a n c) l) (k : Nat) (hk : k ≤ l.length) : P2Row w (.slice a k c) (l.take k) := by
  rcases h with ⟨_, _, hv, rfl⟩ | ⟨b', off', c', hv, h1, hc⟩
  · obtain rfl : k = 0 := by simpa using hk
    exact .inl ⟨_, _, rfl, rfl⟩
  · cases hv
    have hl : (l.take k).length = k := by rw [List.length_take]; omega
    refine .inr ⟨b', off', c, by rw [hl], h1, fun i hi => ?_⟩
    rw [hl] at hi
    have := hc i (by omega)
    rwa [List.getD_eq_getElem?_getD, List.getElem?_take_of_lt hi, ← List.getD_eq_getElem?_getD]
theorem P2Row.rest {w : World} {b off n c : Nat} {l : List Pi2} (h : P2Row w (.slice (some ⟨b, off, none⟩) n c) l) (k : Nat) (hk : k < l.length) (c' : Nat) : P2Row w (.slice (some ⟨b, off + k * 2, none⟩) (n - k) c') (l.drop k) := by
  rcases h with ⟨_, _, hv, rfl⟩ | ⟨b', off', c2, hv, h1, hc⟩
  · simp at hk
  · cases hv
    have hl : (l.drop k).length = l.length - k := List.length_drop
    refine .inr ⟨b, off + k * 2, c', by rw [hl], h1, fun i hi => ?_⟩
    rw [hl] at hi
    have := hc (k + i) (by omega)
    rw [show off + (k + i) * 2 = off + k * 2 + i * 2 by omega] at this
    rwa [List.getD_eq_getElem?_getD, List.getElem?_drop, ← List.getD_eq_getElem?_getD]
theorem info_p2 : (Try.prog.info? 79).map (fun i => (i.zero, i.size, i.bytes)) = some (some (.agg #[.int .i64 0, .int .i64 0]), 2, 16) := by kernel_rfl
theorem flat2_one (l : List Pi2) : ∀ u ∈ l.flatMap enc2, u.oneCell' = true := fun u hu => by
  obtain ⟨t, _, h⟩ := List.mem_flatMap.1 hu
  unfold enc2 at h
  simp only [List.mem_cons, List.not_mem_nil, or_false] at h
  rcases h with rfl | rfl <;> rfl
theorem grown_reflP (w : World) (r : Option Nat) : w.grownBy w r := ⟨rfl, rfl, rfl, Nat.le_refl _, fun _ _ _ => rfl⟩
theorem pair_append {o : Oper} {a : Act} {w : World} {K : Act → World → Prop} {Q : Exit → Act → World → Prop} (s x : Operand)
    (hop : o.op = Op.call { callee := Callee.builtin Builtin.append, args := #[s, x], argTypes := #[37, 37] }) (base : Nat) (v : Value) (n : Nat) (olds : List Value) (hs : a.eval s = v) (hown : w.ownsRow base 79 2 v n olds)
    (tv : Value) (l : List Pi2) (hx : a.eval x = tv) (ht : P2Row w tv l) (hT : l.length ≤ 4000) (hn : n ≤ 4001) (hb : base ≤ w.heap.size)
    (hK : ∀ v' w', w'.ownsRow base 79 2 v' (n + l.length) (olds ++ l.flatMap enc2) → w.grownBy w' v.ownBlock → (v'.ownBlock = v.ownBlock ∨ v'.ownBlock = some w.heap.size) → K (a.put o.dst v') w') : Oper.wp Try.prog o a w K Q := by
  obtain ⟨i0, hi, hz0, hz1, hz2⟩ := info_parts info_p2
  have main : ∀ (ad : Addr) (c : Nat), tv = .slice (some ad) l.length c → (∀ j u, (l.flatMap enc2)[j]? = some u → w.cell? (ad.add j) = some u) → Oper.wp Try.prog o a w K Q := fun ad c h1 h2 =>
    append_at_wp s x 37 hop base 79 i0 (.agg #[.int .i64 0, .int .i64 0]) 2 16 Try.underlying37 hi hz0 hz1 hz2 rfl (by decide) v n olds hs hown ad l.length c (l.flatMap enc2) (hx.trans h1) (flat2_len l) h2 (flat2_one l) (by unfold maxLen; omega) (by omega) hb hK
  rcases ht with ⟨a0, cap, rfl, rfl⟩ | ⟨b, off, cap, rfl, hb', hc⟩
  · cases a0 with
    | some ad => exact main ad cap rfl (fun j u h => by simp at h)
    | none =>
      have hrun : (Builtin.append_ #[37, 37] o.type #[v, .slice none 0 cap]).run Try.prog w = .ok v w := by
        rcases hown.2 with ⟨rfl, rfl⟩ | ⟨g, c', cur, rfl, _, _, hnc, _⟩
        · simp [Builtin.append_, run_underlying Try.underlying37, sizeOf, typeInfo, hi, Builtin.lenOf, Builtin.firstCells]
        · simp [Builtin.append_, run_underlying Try.underlying37, sizeOf, typeInfo, hi, Builtin.lenOf, Builtin.firstCells, hnc, storeCells]
      unfold Oper.wp
      simp [execOp, hop, resolve, invoke, builtin, hs, hx, hrun, Result.andThen]
      exact hK v w (by simpa using hown) (grown_reflP _ _) (.inl rfl)
  · refine main ⟨b, off, none⟩ cap rfl fun j u h => ?_
    rw [show (⟨b, off, none⟩ : Addr).add j = ⟨b, off + j, none⟩ by unfold Addr.add; split <;> simp_all]
    have hj : j < l.length * 2 := by have := (List.getElem?_eq_some_iff.1 h).1; rwa [flat2_len] at this
    obtain ⟨g1, g2⟩ := flat2_get l (j / 2) (by omega)
    obtain ⟨c1, c2⟩ := hc (j / 2) (by omega)
    rcases (by omega : j % 2 = 0 ∨ j % 2 = 1) with e | e
    · rw [show j / 2 * 2 = j by omega] at g1 c1
      rw [h] at g1; cases g1; exact c1
    · rw [show j / 2 * 2 + 1 = j by omega] at g2
      rw [show off + j / 2 * 2 + 1 = off + j by omega] at c2
      rw [h] at g2; cases g2; exact c2
/-- The worlds and frames in put's last region. -/
def PutInv (W1 : World) (wz k n : Nat) (p1 p2 : Int) (lv S1 S2 : Value) (xs1 xs2 : List Value) (u1 u2 u4 u6 u7 u8 u9 u10 u11 u12 u13 u14 u15 u16 u17 u18 u19 u20 u21 u22 u23 u24 u25 u26 u27 u28 u29 u30 u31 u32 u33 u34 u35 u36 u37 u38 u39 u40 u41 u42 u43 u44 u45 u46 u47 u48 u49 u50 u51 u52 u53 : Value) (listed : Array Bool) (a : Act) (w' : World) : Prop :=
  ∃ (l0 l1 l2 l3 l4 l5 l6 l7 l8 l9 l10 l11 : Bool) (A B : Nat) (V V2 V3 : Value), listed = #[l0, l1, l2, l3, l4, l5, l6, l7, l8, l9, l10, l11, false] ∧ a = { tmps := #[lv, u1, u2, .pointer (some ⟨wz, 0, none⟩), u4, .int .i64 (k : Nat), u6, u7, u8, u9, u10, u11, u12, u13, u14, u15, u16, u17, u18, u19, u20, u21, u22, u23, u24, u25, u26, u27, u28, u29, u30, u31, u32, u33, u34, u35, u36, u37, u38, u39, u40, u41, pkIf l0 (.slice (some ⟨A, 0, none⟩) 0 0) (u42), pkIf l1 (lv) (u43), pkIf l2 (.int .i64 (k : Nat)) (u44), pkIf l3 (S1) (u45), pkIf l4 (V) (u46), pkIf l5 (.agg #[.int .i64 p1, .int .i64 p2]) (u47), pkIf l6 (.slice (some ⟨B, 0, none⟩) 1 1) (u48), pkIf l7 (V2) (u49), pkIf l8 (lv) (u50), pkIf l9 (.int .i64 (k : Nat)) (u51), pkIf l10 (S2) (u52), pkIf l11 (V3) (u53)], defers := [] } ∧ Below W1.heap.size W1 w' ∧
    (l0 = true → l4 = false → w'.ownsRow W1.heap.size 79 2 (.slice (some ⟨A, 0, none⟩) 0 0) 0 []) ∧ (l4 = true → l7 = false → w'.ownsRow W1.heap.size 79 2 V k xs1) ∧ (l7 = true → l11 = false → w'.ownsRow W1.heap.size 79 2 V2 (k + 1) (xs1 ++ [.int .i64 p1, .int .i64 p2])) ∧
    (l11 = true → w'.ownsRow W1.heap.size 79 2 V3 (k + 1 + n) (xs1 ++ [.int .i64 p1, .int .i64 p2] ++ xs2)) ∧ (l6 = true → l7 = false → w'.heap[B]? = some (.cells #[.int .i64 p1, .int .i64 p2] 79 (0, 0)) ∧ (l0 = true → l4 = false → A ≠ B) ∧ (l4 = true → V.ownBlock ≠ some B)) ∧
    (l4 = true → l0 = true) ∧ (l7 = true → l4 = true ∧ l6 = true) ∧ (l11 = true → l7 = true)
/-- What put returns. -/
def PutOut (L : List Pi2) (w : World) (e : Ending) (w' : World) : Prop := ∃ v, e = .returned v ∧ P2Row w' v L ∧ P2Cap v ∧ Below w.heap.size w w'
theorem below_keepN {w : World} (k : Nat) : Below w.heap.size w (w.drewN k) := ⟨rfl, rfl, rfl, Nat.le_refl _, fun _ _ => rfl⟩
end Go.Proofs.Ytebdboacmeafaaa
