/- Towers appended to an own row. -/
import Derived.Test.YtjllkmekchmmbaaHI5
import Derived.Test.YtjllkmekchmmbaaHC0
set_option linter.unusedVariables false
set_option linter.unusedSimpArgs false
namespace Go.Proofs.Ytjllkmekchmmbaa
open Go Go.RowKit

theorem grown_refl (w : World) (r : Option Nat) : w.grownBy w r := ⟨rfl, rfl, rfl, Nat.le_refl _, fun _ _ _ => rfl⟩
theorem flatT_one (T : List Tw) : ∀ u ∈ T.flatMap encT, u.oneCell' = true := fun u hu => by
  obtain ⟨t, _, h⟩ := List.mem_flatMap.1 hu
  unfold encT at h
  simp only [List.mem_cons, List.not_mem_nil, or_false] at h
  rcases h with rfl | rfl | rfl | rfl <;> rfl
theorem four_at {w : World} {b : Nat} {x y z t : Value} {ty : TypeId} {f : Nat × Nat} (h : w.heap[b]? = some (.cells #[x, y, z, t] ty f)) (j : Nat) (u : Value) (hu : [x, y, z, t][j]? = some u) : w.cell? ((⟨b, 0, none⟩ : Addr).add j) = some u := by
  rw [taddr_add, cellH h, Nat.zero_add]
  simpa using hu
theorem tower_append {o : Oper} {a : Act} {w : World} {K : Act → World → Prop} {Q : Exit → Act → World → Prop} (hg : o.guard = none) (s x : Operand)
    (hop : o.op = Op.call { callee := Callee.builtin Builtin.append, args := #[s, x], argTypes := #[25, 25] }) (base : Nat) (v : Value) (n : Nat) (olds : List Value) (hs : a.eval s = v) (hown : w.ownsRow base 73 4 v n olds)
    (tv : Value) (T : List Tw) (hx : a.eval x = tv) (ht : TwRow w tv T) (hT : T.length ≤ 12) (hn : n ≤ 20) (hb : base ≤ w.heap.size)
    (hK : ∀ v' w', w'.ownsRow base 73 4 v' (n + T.length) (olds ++ T.flatMap encT) → w.grownBy w' v.ownBlock → K (a.put o.dst v') w') : Oper.wp Try.prog o a w K Q := by
  obtain ⟨i0, hi, hz0, hz1, hz2⟩ := info_parts info_tw4
  have main : ∀ (ad : Addr) (c : Nat), tv = .slice (some ad) T.length c → (∀ j u, (T.flatMap encT)[j]? = some u → w.cell? (ad.add j) = some u) → Oper.wp Try.prog o a w K Q := fun ad c h1 h2 =>
    append_wp hg s x _ hop 73 i0 _ 4 32 Try.underlying25 hi hz0 hz1 hz2 rfl (by decide) base v n olds hs hown ad T.length c (T.flatMap encT) (hx.trans h1) (flatT_len T) h2 (flatT_one T) (by unfold maxLen; omega) (by omega) hb hK
  rcases ht with ⟨a0, cap, rfl, rfl⟩ | ⟨b, off, cap, rfl, hp, hb', hc⟩
  · cases a0 with
    | some ad => exact main ad cap rfl (fun j u h => by simp at h)
    | none =>
      have hrun : (Builtin.append_ #[25, 25] o.type #[v, .slice none 0 cap]).run Try.prog w = .ok v w := by
        rcases hown.2 with ⟨rfl, rfl⟩ | ⟨g, c', cur, rfl, _, _, hnc, _⟩
        · simp [Builtin.append_, run_underlying Try.underlying25, sizeOf, typeInfo, hi, Builtin.lenOf, Builtin.firstCells]
        · simp [Builtin.append_, run_underlying Try.underlying25, sizeOf, typeInfo, hi, Builtin.lenOf, Builtin.firstCells, hnc, storeCells]
      unfold Oper.wp
      simp [execOp, hop, resolve, invoke, builtin, hs, hx, hrun, Result.andThen]
      exact hK v w (by simpa using hown) (grown_refl _ _)
  · refine main ⟨b, off, none⟩ cap rfl fun j u h => ?_
    rw [taddr_add]
    have hj : j < T.length * 4 := by have := (List.getElem?_eq_some_iff.1 h).1; rwa [flatT_len] at this
    have h2 := (TwRow.raw (.inr ⟨b, off, cap, rfl, hp, hb', hc⟩ : TwRow w (.slice (some ⟨b, off, none⟩) T.length cap) T)).2 j hj
    rw [flatT_get _ _ hj] at h
    rw [h2]; exact h
end Go.Proofs.Ytjllkmekchmmbaa
