/- Package firetowerref05: Clashes. -/
import Derived.Test.YtebdboacmeafaaaCF7
set_option linter.unusedVariables false
set_option linter.unusedSimpArgs false
namespace Go.Proofs.Ytebdboacmeafaaa
open Go Go.RowKit

theorem ci_self {cs : List Ci} {ks : List Ck} (h : CcOk cs ks) {k : Nat} (hk : k < cs.length) : ciF cs (cs.getD k .nil).id = some (cs.getD k .nil) := by
  refine ciF_hit hk (fun j hj => ?_) (by simp)
  cases he : ((cs.getD j .nil).id == (cs.getD k .nil).id)
  · rfl
  · have h1 := (h.ci k hk).2
    have h2 := ciF_take_some (l := cs) (id := (cs.getD k .nil).id) (n := k) (j := j) (by omega) hj he
    rw [h1] at h2; cases h2
/-- What clashing answers of a circle is what the dial's list holds. -/
theorem clN_eq {cs : List Ci} {ks : List Ck} (h : CcOk cs ks) {k : Nat} (hk : k < cs.length) : gAll (cs.getD k .nil).dr (thL (cs.getD k .nil) ks) (thL (cs.getD k .nil) ks).length = clN cs ks (cs.getD k .nil) := by
  rw [gAll_eq h]
  unfold clN
  rw [ci_self h hk]
  rfl
theorem pair_append2 {o : Oper} {a : Act} {w : World} {K : Act → World → Prop} {Q : Exit → Act → World → Prop} (s x : Operand)
    (hop : o.op = Op.call { callee := Callee.builtin Builtin.append, args := #[s, x], argTypes := #[37, 37] }) (base : Nat) (v : Value) (n : Nat) (olds : List Value) (hs : a.eval s = v) (hown : w.ownsRow base 79 2 v n olds)
    (tv : Value) (l : List Pi2) (hx : a.eval x = tv) (ht : P2Row w tv l) (hT : l.length ≤ 4000) (hn : n ≤ 100000) (hb : base ≤ w.heap.size)
    (hK : ∀ v' w', w'.ownsRow base 79 2 v' (n + l.length) (olds ++ l.flatMap enc2) → w.grownBy w' v.ownBlock → (v'.ownBlock = v.ownBlock ∨ v'.ownBlock = some w.heap.size) → K (a.put o.dst v') w') : Oper.wp Try.prog o a w K Q := by
  obtain ⟨i0, hi, hz0, hz1, hz2⟩ := info_parts info_p2
  have main : ∀ (ad : Addr) (c : Nat), tv = .slice (some ad) l.length c → (∀ j u, (l.flatMap enc2)[j]? = some u → w.cell? (ad.add j) = some u) → Oper.wp Try.prog o a w K Q := fun ad c h1 h2 =>
    append_at_wp s x 37 hop base 79 i0 (.agg #[.int .i64 0, .int .i64 0]) 2 16 Try.underlying37 hi hz0 hz1 hz2 rfl (by decide) v n olds hs hown ad l.length c (l.flatMap enc2) (hx.trans h1) (flat2_len l) h2 (flat2_one l) (by unfold maxLen; omega) (by omega) hb hK
  rcases ht with ⟨a0, cap, rfl, rfl⟩ | ⟨b, off, cap, rfl, hb', hc⟩
  · cases a0 with
    | some ad => exact main ad cap rfl (fun j u h => by simp at h)
    | none =>
      have hrun : (Builtin.append_ #[37, 37] o.type #[v, .slice none 0 cap]).run Try.prog w = .ok v w := by
        rcases hown.2 with ⟨rfl, rfl⟩ | ⟨g, c', cur, rfl, _, _, hnc, _⟩
        · simp [Builtin.append_, run_underlying Try.underlying37, sizeOf, typeInfo, hi, Builtin.lenOf, Builtin.firstCells]
        · simp [Builtin.append_, run_underlying Try.underlying37, sizeOf, typeInfo, hi, Builtin.lenOf, Builtin.firstCells, hnc, storeCells]
      unfold Oper.wp
      simp [execOp, hop, resolve, invoke, builtin, hs, hx, hrun, Result.andThen]
      exact hK v w (by simpa using hown) (grown_reflP _ _) (.inl rfl)
  · refine main ⟨b, off, none⟩ cap rfl fun j u h => ?_
    rw [show (⟨b, off, none⟩ : Addr).add j = ⟨b, off + j, none⟩ by unfold Addr.add; split <;> simp_all]
    have hj : j < l.length * 2 := by have := (List.getElem?_eq_some_iff.1 h).1; rwa [flat2_len] at this
    obtain ⟨g1, g2⟩ := flat2_get l (j / 2) (by omega)
    obtain ⟨c1, c2⟩ := hc (j / 2) (by omega)
    rcases (by omega : j % 2 = 0 ∨ j % 2 = 1) with e | e
    · rw [show j / 2 * 2 = j by omega] at g1 c1
      rw [h] at g1; cases g1; exact c1
    · rw [show j / 2 * 2 + 1 = j by omega] at g2
      rw [show off + j / 2 * 2 + 1 = off + j by omega] at c2
      rw [h] at g2; cases g2; exact c2
/-- What the reference's Clashes answers. -/
def RcOut (cs : List Ci) (ks : List Ck) (w : World) (e : Ending) (w' : World) : Prop :=
  Below w.heap.size w w' ∧ (ccE cs ks ≠ 0 → e = .returned (.agg #[.slice none 0 0, .int .i64 (ccE cs ks)])) ∧ (ccE cs ks = 0 → ∃ v, e = .returned (.agg #[v, .int .i64 0]) ∧ P2Row w' v (clK cs ks cs.length))
/-- The worlds and frames in the region of Clashes. -/
def RkInv (Z : World) (hs k : Nat) (n1 c1 n2 c2 : Nat) (a1 a2 : Option Addr) (b off : Nat) (z0 z1 z2 z3 z4 z5 z6 z7 : Int) (v5 : Value) (n : Nat) (xs : List Value) (GL : List Pi2) (u0 u2 u3 u6 u7 u8 u9 u10 u11 u12 u13 u14 u15 u16 u17 u18 u19 u20 u21 u22 u23 u24 u25 u26 u27 u28 u29 : Value) (listed : Array Bool) (a : Act) (w' : World) : Prop :=
  ∃ (l0 l1 l2 l3 l4 l5 l6 l7 l8 : Bool) (TV V : Value), listed = #[l0, l1, l2, l3, l4, l5, l6, l7, l8, false] ∧ a = { tmps := #[u0, .pointer (some ⟨hs, 0, none⟩), u2, u3, v5, .int .i64 (k : Nat), u6, u7, u8, u9, u10, u11, u12, u13, u14, u15, u16, u17, u18, pkIf l0 (v5) (u19), pkIf l1 (.agg #[.slice a1 n1 c1, .slice a2 n2 c2]) (u20), pkIf l2 (.pointer (some ⟨hs, 0, none⟩)) (u21), pkIf l3 (.slice a1 n1 c1) (u22), pkIf l4 (.int .i64 (k : Nat)) (u23), pkIf l5 (.pointer (some ⟨b, off + k * 8, none⟩)) (u24), pkIf l6 (.agg #[.int .i64 z0, .int .i64 z1, .int .i64 z2, .int .i64 z3, .int .i64 z4, .int .i64 z5, .int .i64 z6, .int .i64 z7]) (u25), pkIf l7 (TV) (u26), pkIf l8 (V) (u27), u28, u29], defers := [] } ∧ Below Z.heap.size Z w' ∧ w'.ownsRow Z.heap.size 79 2 (if l8 = true then V else v5) (if l8 = true then n + GL.length else n) (if l8 = true then xs ++ GL.flatMap enc2 else xs) ∧ (l7 = true → l8 = false → P2Row w' TV GL) ∧ (l8 = true → l7 = true)
end Go.Proofs.Ytebdboacmeafaaa
