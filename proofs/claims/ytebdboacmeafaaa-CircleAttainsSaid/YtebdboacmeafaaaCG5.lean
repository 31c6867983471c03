/- Package firetowerref05: add. -/
import Derived.Test.YtebdboacmeafaaaCF3
set_option linter.unusedVariables false
set_option linter.unusedSimpArgs false
namespace Go.Proofs.Ytebdboacmeafaaa
open Go Go.RowKit

/-- How many numbers at a list's beginning are less than a number. -/
def atI (l : List Int) (p : Int) : Nat := (l.takeWhile fun a => decide (a < p)).length
/-- A number put into a list. -/
def addI (l : List Int) (p : Int) : List Int := l.take (atI l p) ++ p :: l.drop (atI l p)
theorem atI_le (l : List Int) (p : Int) : atI l p ≤ l.length := by
  unfold atI
  induction l with
  | nil => simp
  | cons a l ih => rw [List.takeWhile_cons]; split <;> simp; omega
theorem atI_eq : ∀ {l : List Int} {p : Int} {k : Nat}, k ≤ l.length → (∀ j, j < k → l.getD j 0 < p) → (k < l.length → ¬ l.getD k 0 < p) → atI l p = k
  | [], p, k, hk, _, _ => by simp at hk; subst hk; rfl
  | a :: l, p, 0, _, _, h2 => by
    have h := h2 (by simp)
    have h' : decide (a < p) = false := decide_eq_false h
    unfold atI
    rw [List.takeWhile_cons, h']; rfl
  | a :: l, p, k + 1, hk, h1, h2 => by
    have h0 : decide (a < p) = true := decide_eq_true (h1 0 (by omega))
    have ih := atI_eq (l := l) (p := p) (k := k) (by simpa using hk) (fun j hj => h1 (j + 1) (by omega)) (fun h => h2 (by simpa using h))
    unfold atI at ih ⊢
    rw [List.takeWhile_cons, h0]
    simp only [if_true, List.length_cons, ih]
theorem addI_len (l : List Int) (p : Int) : (addI l p).length = l.length + 1 := by
  have := atI_le l p
  unfold addI
  rw [List.length_append, List.length_cons, List.length_take, List.length_drop]
  omega
theorem ICap.of_own {w : World} {base : Nat} {v : Value} {n : Nat} {xs : List Value} (h : w.ownsRow base 3 1 v n xs) : P2Cap v := by
  rcases h.2 with ⟨h1, h2⟩ | ⟨nb, nc, cur, e1, e2, e3, e4, e5, e6, e7⟩
  · exact ⟨_, _, _, h1, Nat.le_refl _⟩
  · exact ⟨_, _, _, e1, e4⟩
theorem INRow.cut {w : World} {a : Option Addr} {n c : Nat} {l : List Int} (h : INRow w (.slice a n c) l) (k : Nat) (hk : k ≤ l.length) : INRow w (.slice a k c) (l.take k) := by
  rcases h with ⟨_, _, hv, rfl⟩ | ⟨b', off', c', hv, h1, hc⟩
  · obtain rfl : k = 0 := by simpa using hk
    exact .inl ⟨_, _, rfl, rfl⟩
  · cases hv
    have hl : (l.take k).length = k := by rw [List.length_take]; omega
    refine .inr ⟨b', off', c, by rw [hl], h1, fun i hi => ?_⟩
    rw [hl] at hi
    have := hc i (by omega)
    rwa [List.getD_eq_getElem?_getD, List.getElem?_take_of_lt hi, ← List.getD_eq_getElem?_getD]
theorem INRow.rest {w : World} {b off n c : Nat} {l : List Int} (h : INRow w (.slice (some ⟨b, off, none⟩) n c) l) (k : Nat) (hk : k < l.length) (c' : Nat) : INRow w (.slice (some ⟨b, off + k, none⟩) (n - k) c') (l.drop k) := by
  rcases h with ⟨_, _, hv, rfl⟩ | ⟨b', off', c2, hv, h1, hc⟩
  · simp at hk
  · cases hv
    have hl : (l.drop k).length = l.length - k := List.length_drop
    refine .inr ⟨b, off + k, c', by rw [hl], h1, fun i hi => ?_⟩
    rw [hl] at hi
    have := hc (k + i) (by omega)
    rw [show off + (k + i) = off + k + i by omega] at this
    rwa [List.getD_eq_getElem?_getD, List.getElem?_drop, ← List.getD_eq_getElem?_getD]
theorem ints_append {o : Oper} {a : Act} {w : World} {K : Act → World → Prop} {Q : Exit → Act → World → Prop} (s x : Operand)
    (hop : o.op = Op.call { callee := Callee.builtin Builtin.append, args := #[s, x], argTypes := #[31, 31] }) (base : Nat) (v : Value) (n : Nat) (olds : List Value) (hs : a.eval s = v) (hown : w.ownsRow base 3 1 v n olds)
    (tv : Value) (l : List Int) (hx : a.eval x = tv) (ht : INRow w tv l) (hT : l.length ≤ 4000) (hn : n ≤ 4001) (hb : base ≤ w.heap.size)
    (hK : ∀ v' w', w'.ownsRow base 3 1 v' (n + l.length) (olds ++ l.map (Value.int .i64)) → w.grownBy w' v.ownBlock → (v'.ownBlock = v.ownBlock ∨ v'.ownBlock = some w.heap.size) → K (a.put o.dst v') w') : Oper.wp Try.prog o a w K Q := by
  obtain ⟨i0, hi, hz0, hz1, hz2⟩ := info_parts info_in1
  have h1c : ∀ u ∈ l.map (Value.int .i64), u.oneCell' = true := fun u hu => by
    obtain ⟨q, _, rfl⟩ := List.mem_map.1 hu; rfl
  have main : ∀ (ad : Addr) (c : Nat), tv = .slice (some ad) l.length c → (∀ j u, (l.map (Value.int .i64))[j]? = some u → w.cell? (ad.add j) = some u) → Oper.wp Try.prog o a w K Q := fun ad c h1 h2 =>
    append_at_wp s x 31 hop base 3 i0 (.int .i64 0) 1 8 Try.underlying31 hi hz0 hz1 hz2 rfl (by decide) v n olds hs hown ad l.length c (l.map (Value.int .i64)) (hx.trans h1) (by simp) h2 h1c (by unfold maxLen; omega) (by omega) hb hK
  rcases ht with ⟨a0, cap, rfl, rfl⟩ | ⟨b, off, cap, rfl, hb', hc⟩
  · cases a0 with
    | some ad => exact main ad cap rfl (fun j u h => by simp at h)
    | none =>
      have hrun : (Builtin.append_ #[31, 31] o.type #[v, .slice none 0 cap]).run Try.prog w = .ok v w := by
        rcases hown.2 with ⟨rfl, rfl⟩ | ⟨g, c', cur, rfl, _, _, hnc, _⟩
        · simp [Builtin.append_, run_underlying Try.underlying31, sizeOf, typeInfo, hi, Builtin.lenOf, Builtin.firstCells]
        · simp [Builtin.append_, run_underlying Try.underlying31, sizeOf, typeInfo, hi, Builtin.lenOf, Builtin.firstCells, hnc, storeCells]
      unfold Oper.wp
      simp [execOp, hop, resolve, invoke, builtin, hs, hx, hrun, Result.andThen]
      exact hK v w (by simpa using hown) (grown_reflP _ _) (.inl rfl)
  · refine main ⟨b, off, none⟩ cap rfl fun j u h => ?_
    rw [show (⟨b, off, none⟩ : Addr).add j = ⟨b, off + j, none⟩ by unfold Addr.add; split <;> simp_all]
    have hj : j < l.length := by have := (List.getElem?_eq_some_iff.1 h).1; simpa using this
    rw [hc j hj]
    rw [List.getElem?_map, List.getElem?_eq_getElem hj] at h
    rw [List.getD_eq_getElem?_getD, List.getElem?_eq_getElem hj]
    exact h
/-- The worlds and frames in add's last region. -/
def AddInv (W1 : World) (k n : Nat) (p : Int) (lv S1 S2 : Value) (xs1 xs2 : List Value) (u2 u3 u4 u6 u7 u8 u9 u10 u11 u12 u13 u14 u15 u16 u17 u18 u19 u20 u21 u22 u23 u24 u25 u26 u27 u28 u29 u30 u31 : Value) (listed : Array Bool) (a : Act) (w' : World) : Prop :=
  ∃ (l0 l1 l2 l3 l4 l5 l6 l7 l8 l9 l10 l11 : Bool) (A B : Nat) (V V2 V3 : Value), listed = #[l0, l1, l2, l3, l4, l5, l6, l7, l8, l9, l10, l11, false] ∧ a = { tmps := #[lv, .int .i64 p, u2, u3, u4, .int .i64 (k : Nat), u6, u7, u8, u9, u10, u11, u12, u13, u14, u15, u16, u17, u18, u19, pkIf l0 (.slice (some ⟨A, 0, none⟩) 0 0) (u20), pkIf l1 (lv) (u21), pkIf l2 (.int .i64 (k : Nat)) (u22), pkIf l3 (S1) (u23), pkIf l4 (V) (u24), pkIf l5 (.int .i64 p) (u25), pkIf l6 (.slice (some ⟨B, 0, none⟩) 1 1) (u26), pkIf l7 (V2) (u27), pkIf l8 (lv) (u28), pkIf l9 (.int .i64 (k : Nat)) (u29), pkIf l10 (S2) (u30), pkIf l11 (V3) (u31)], defers := [] } ∧ Below W1.heap.size W1 w' ∧
    (l0 = true → l4 = false → w'.ownsRow W1.heap.size 3 1 (.slice (some ⟨A, 0, none⟩) 0 0) 0 []) ∧ (l4 = true → l7 = false → w'.ownsRow W1.heap.size 3 1 V k xs1) ∧ (l7 = true → l11 = false → w'.ownsRow W1.heap.size 3 1 V2 (k + 1) (xs1 ++ [.int .i64 p])) ∧
    (l11 = true → w'.ownsRow W1.heap.size 3 1 V3 (k + 1 + n) (xs1 ++ [.int .i64 p] ++ xs2)) ∧ (l6 = true → l7 = false → w'.heap[B]? = some (.cells #[.int .i64 p] 3 (0, 0)) ∧ (l0 = true → l4 = false → A ≠ B) ∧ (l4 = true → V.ownBlock ≠ some B)) ∧
    (l4 = true → l0 = true) ∧ (l7 = true → l4 = true ∧ l6 = true) ∧ (l11 = true → l7 = true)
/-- A row of numbers of the function's own. -/
def OwI (w : World) (B : Nat) (v : Value) (l : List Int) : Prop := w.ownsRow B 3 1 v l.length (l.map (Value.int .i64))
theorem OwI.keep {A C : World} {B : Nat} {v : Value} {l : List Int} (h : OwI A B v l) (hb : Below A.heap.size A C) : OwI C B v l := ownBelow h hb
theorem OwI.row {w : World} {B : Nat} {v : Value} {l : List Int} (h : OwI w B v l) : INRow w v l := own_ints h
theorem OwI.cap {w : World} {B : Nat} {v : Value} {l : List Int} (h : OwI w B v l) : P2Cap v := ICap.of_own h
theorem OwI.base {w : World} {A B : Nat} {v : Value} {l : List Int} (h : OwI w A v l) (hb : B ≤ A) : OwI w B v l := by
  rcases h with ⟨h1, h2 | ⟨g, cap, cur, k1, k2, k3, k4⟩⟩
  · exact ⟨h1, .inl h2⟩
  · exact ⟨h1, .inr ⟨g, cap, cur, k1, Nat.le_trans hb k2, k3, k4⟩⟩
/-- What add returns. -/
def AddOut (L : List Int) (w : World) (e : Ending) (w' : World) : Prop := ∃ v, e = .returned v ∧ OwI w' w.heap.size v L ∧ Below w.heap.size w w'
end Go.Proofs.Ytebdboacmeafaaa
