/- A row in a box, behind an append of what lies in memory already. -/
import Derived.Test.YtjllkmekchmmbaaHI3
set_option linter.unusedVariables false
set_option linter.unusedSimpArgs false
namespace Go.Proofs.Ytjllkmekchmmbaa
open Go Go.RowKit

/-- A box below a row, behind an append to the row whose result goes into the box. -/
theorem boxed_appended2 {W w1 : World} {n₀ b : Nat} {t e : TypeId} {size : Nat} {v v' : Value} {k m : Nat} {xs ys : List Value}
    (hv : Boxed W b t v) (hrow : W.ownsRow n₀ e size v k xs) (hb : b < n₀) (hn₀ : n₀ ≤ W.heap.size) (hown' : w1.ownsRow n₀ e size v' m ys) (hgrow : W.grownBy w1 v.ownBlock) :
    Boxed w1 b t v ∧ Boxed (w1.setCell ⟨b, 0, none⟩ v') b t v' ∧ (w1.setCell ⟨b, 0, none⟩ v').ownsRow n₀ e size v' m ys ∧ KeepsOthers W (w1.setCell ⟨b, 0, none⟩ v') ∧ (∀ n, n ≤ b → Below n W (w1.setCell ⟨b, 0, none⟩ v')) ∧
      (∀ c, c < n₀ → c ≠ b → (w1.setCell ⟨b, 0, none⟩ v').heap[c]? = W.heap[c]?) := by
  have hne : ∀ c, c < n₀ → some c ≠ v.ownBlock := fun c hc e => by have := (hrow.lt c e.symm).1; omega
  have hv1 : Boxed w1 b t v := hv.kept hgrow (hne b hb)
  refine ⟨hv1, hv1.set v', ownsRow_setCell_below hown' hb v', ?_, fun n hn => ?_, fun c hc hcb => ?_⟩
  · refine (KeepsOthers.of_grownBy hgrow fun j o ej hj => ?_).trans (KeepsOthers.setCell _ _ _)
    rcases hrow.2 with ⟨rfl, _⟩ | ⟨g, cap, cur, rfl, _, hgb, _⟩
    · simp [Value.ownBlock] at ej
    · obtain rfl : g = j := by simpa [Value.ownBlock] using ej
      rw [hgb] at hj; cases hj; rfl
  · have h1 := (Below.refl n W).grown hgrow (by omega) (fun k e => by have := (hrow.lt k e).1; omega)
    exact h1.setCell (p := ⟨b, 0, none⟩) hn v'
  · rw [Below.heap_setCell _ _ _ c hcb, hgrow.block c (by omega) (hne c hc)]

/-- Behind an append to the row in the box. -/
theorem RgQ.appended2 {bt et : TypeId} {sz : Nat} {W3 : World} {n0 e m k : Nat} {xs ys : List Value} {Y w1 : World} {v v' : Value} (h : (∀ b, b < n0 → b ≠ e → Y.heap[b]? = W3.heap[b]?) ∧ n0 ≤ Y.heap.size ∧ Y.os = W3.os ∧ Y.tape = W3.tape ∧ Y.output = W3.output) (hv : Boxed Y e bt v) (hrow : Y.ownsRow n0 et sz v m xs) (he : e < n0)
    (hown' : w1.ownsRow n0 et sz v' k ys) (hgrow : Y.grownBy w1 v.ownBlock) (p : Nat → TypeId → Prop) (hpe : ¬ p e bt) (hpt : ∀ g, n0 ≤ g → ¬ p g et) :
    KeepsFrom n0 Y (w1.setCell ⟨e, 0, none⟩ v') ∧ KpP p Y (w1.setCell ⟨e, 0, none⟩ v') ∧ RgQ bt et sz W3 n0 e k ys (w1.setCell ⟨e, 0, none⟩ v') ∧ Boxed w1 e bt v := by
  obtain ⟨h1, h2, h3, h4, h5⟩ := h
  obtain ⟨b1, b2, b3, b4, b5, b6⟩ := boxed_appended2 hv hrow he h2 hown' hgrow
  have hsz : Y.heap.size ≤ w1.heap.size := hgrow.size
  refine ⟨b4.from _, ⟨by rw [size_set]; exact hsz, fun b C t fr hb hpb => ?_⟩, ⟨⟨fun b hb hbe => ?_, by rw [size_set]; omega, ?_, ?_, ?_⟩, v', b2, b3⟩, b1⟩
  · have hbs := (Array.getElem?_eq_some_iff.1 hb).1
    have hbe : b ≠ e := fun q => by
      have hv' : Y.heap[e]? = some (.cells #[v] bt (0, 0)) := hv
      rw [q, hv'] at hb
      cases hb
      exact hpe (q ▸ hpb)
    have hno : some b ≠ v.ownBlock := fun q => by
      rcases hrow.2 with ⟨k1, _⟩ | ⟨g', cap, cur, k1, k2, k3, k4⟩
      · rw [k1] at q; cases q
      · rw [k1] at q
        obtain rfl : b = g' := by simpa [Value.ownBlock] using q
        rw [k3] at hb
        cases hb
        exact hpt b k2 hpb
    rw [heap_other _ _ _ _ _ hbe, hgrow.block b (by omega) hno]
  · rw [b6 b hb hbe]; exact h1 b hb hbe
  · exact (hgrow.os.trans h3)
  · exact (hgrow.tape.trans h4)
  · exact (hgrow.output.trans h5)
end Go.Proofs.Ytjllkmekchmmbaa
