/- A drawn region with one operation that makes memory, inside a fence; a row in a box that a loop over an iterator appends to. -/
import Derived.Test.YtjllkmekchmmbaaHI1
import Derived.Maps.OwnIn
set_option linter.unusedVariables false
set_option linter.unusedSimpArgs false
namespace Go.Proofs.Ytjllkmekchmmbaa
open Go Go.RowKit

section
variable {F : Fence} {m : Nat} {P : Program}
/-- The operation number j of the head turns the world into W1; all others leave it alone, but for draws: inside a fence. -/
theorem wpIn_region_one (hF : Lax F) {id : Nat} {Q : Exit → Act → World → Prop} {a : Act} {w : World} {l : List Oper} (n j : Nat) (W1 : World) (hm : P.follows .mixedOrders = true) (hd : noDefer l.toArray = true) (hB : Region.lexTailB .any l.toArray n = true) (hj : j < n)
    (h : wpOne P l.toArray w W1 j (fun a' => ∀ k, wpListIn F m P l.toArray Q (l.drop n) a' (W1.drewN k)) (l.take n) 0 a) : (Code.region id l.toArray true).wpIn F m P Q a w := by
  refine wpIn_region_turn hF n (OneC w W1 j) hm hd hB ?_ ?_
  · unfold OneC
    rw [getD_replicate_false]
    exact ⟨1, rfl⟩
  · refine wpTurn_of_one _ _ _ ?_ (by simp; omega)
    have hQ : ∀ (l' : List Oper) (k : Nat) (a : Act), wpOne P l.toArray w W1 j (fun a' => ∀ k, wpListIn F m P l.toArray Q (l.drop n) a' (W1.drewN k)) l' k a →
        wpOne P l.toArray w W1 j (fun a' => ∀ listed w', (∀ i, i < n → listed.getD i false = true) → OneC w W1 j listed w' → wpListIn F m P l.toArray Q (l.drop n) a' w') l' k a := by
      intro l'
      induction l' with
      | nil =>
        intro k a h listed w' hall hC
        obtain ⟨q, rfl⟩ : DrawsOf W1 w' := by simpa [OneC, hall j hj] using hC
        exact h q
      | cons o rest ih =>
        intro k a h
        simp only [wpOne] at h ⊢
        split
        · rename_i hw
          rw [if_pos hw] at h
          obtain ⟨v, h1, h2⟩ := h
          exact ⟨v, h1, ih _ _ h2⟩
        · rename_i hw
          rw [if_neg hw] at h
          exact ⟨h.1, ih _ _ h.2⟩
    exact hQ _ _ _ h
end

/-- A box below a row, behind an append to the row whose result goes into the box. -/
theorem boxed_appended {W w1 : World} {n₀ b : Nat} {t e : TypeId} {size : Nat} {v v' : Value} {k m : Nat} {xs ys : List Value} {tmp : Obj}
    (hv : Boxed W b t v) (hrow : W.ownsRow n₀ e size v k xs) (hb : b < n₀) (hn₀ : n₀ ≤ W.heap.size) (hown' : w1.ownsRow n₀ e size v' m ys) (hgrow : (W.alloc tmp).grownBy w1 v.ownBlock) :
    Boxed w1 b t v ∧ Boxed (w1.setCell ⟨b, 0, none⟩ v') b t v' ∧ (w1.setCell ⟨b, 0, none⟩ v').ownsRow n₀ e size v' m ys ∧ KeepsOthers W (w1.setCell ⟨b, 0, none⟩ v') ∧ (∀ n, n ≤ b → Below n W (w1.setCell ⟨b, 0, none⟩ v')) ∧
      (∀ c, c < n₀ → c ≠ b → (w1.setCell ⟨b, 0, none⟩ v').heap[c]? = W.heap[c]?) := by
  have hne : ∀ c, c < n₀ → some c ≠ v.ownBlock := fun c hc e => by have := (hrow.lt c e.symm).1; omega
  have hv1 : Boxed w1 b t v := (hv.alloc tmp).kept hgrow (hne b hb)
  refine ⟨hv1, hv1.set v', ownsRow_setCell_below hown' hb v', ?_, fun n hn => ?_, fun c hc hcb => ?_⟩
  · refine ((KeepsOthers.alloc W tmp).trans (KeepsOthers.of_grownBy hgrow fun j o ej hj => ?_)).trans (KeepsOthers.setCell _ _ _)
    rcases (hrow.alloc tmp).2 with ⟨rfl, _⟩ | ⟨g, cap, cur, rfl, _, hgb, _⟩
    · simp [Value.ownBlock] at ej
    · obtain rfl : g = j := by simpa [Value.ownBlock] using ej
      rw [hgb] at hj; cases hj; rfl
  · have h1 := ((Below.refl n W).alloc (by omega) tmp).grown hgrow (by simp; omega) (fun k e => by have := (hrow.lt k e).1; omega)
    exact h1.setCell (p := ⟨b, 0, none⟩) hn v'
  · rw [Below.heap_setCell _ _ _ c hcb, hgrow.block c (by simp; omega) (hne c hc)]
    exact Below.heap_alloc _ _ c (by omega)
/-- A row in a box, which lie beyond n0 and at e; all else below n0 lies as it lay. -/
def RgQ (bt et : TypeId) (sz : Nat) (W3 : World) (n0 e : Nat) (m : Nat) (xs : List Value) (Y : World) : Prop := ((∀ b, b < n0 → b ≠ e → Y.heap[b]? = W3.heap[b]?) ∧ n0 ≤ Y.heap.size ∧ Y.os = W3.os ∧ Y.tape = W3.tape ∧ Y.output = W3.output) ∧ ∃ v, Boxed Y e bt v ∧ Y.ownsRow n0 et sz v m xs
theorem RgQ.grown {bt et : TypeId} {sz : Nat} {W3 : World} {n0 e m : Nat} {xs : List Value} {A B : World} {row : Option Nat} (h : RgQ bt et sz W3 n0 e m xs A) (he : e < n0) (hg : A.grownBy B row) (hr : ∀ r, row = some r → n0 ≤ r ∧ ∃ o : Obj, A.heap[r]? = some o ∧ o.isCells = false) : RgQ bt et sz W3 n0 e m xs B := by
  obtain ⟨⟨h1, h2, h3, h4, h5⟩, v, h6, h7⟩ := h
  have hne : ∀ b, b < n0 → some b ≠ row := fun b hb q => by have := (hr b q.symm).1; omega
  refine ⟨⟨fun b hb hbe => ?_, Nat.le_trans h2 hg.size, hg.os.trans h3, hg.tape.trans h4, hg.output.trans h5⟩, v, h6.kept hg (hne e he), h7.kept hg ?_⟩
  · rw [hg.block b (by omega) (hne b hb)]; exact h1 b hb hbe
  · cases hv : v.ownBlock with
    | none => exact .inl rfl
    | some g =>
      refine .inr (fun q => ?_)
      obtain ⟨_, o, ho, hoc⟩ := hr g q.symm
      rcases h7.2 with ⟨k1, _⟩ | ⟨g', cap, cur, k1, k2, k3, _⟩
      · rw [k1] at hv; cases hv
      · rw [k1] at hv
        obtain rfl : g' = g := by simpa [Value.ownBlock] using hv
        rw [k3] at ho; cases ho; cases hoc
theorem RgQ.own {bt et T : TypeId} {sz : Nat} {W3 : World} {n0 e m n : Nat} {xs : List Value} {A B : World} (h : RgQ bt et sz W3 n0 e m xs A) (he : e < n0) (k : OwnTo T n A B) (hn : n0 ≤ n) (hT : et ≠ T) : RgQ bt et sz W3 n0 e m xs B := by
  obtain ⟨⟨h1, h2, h3, h4, h5⟩, v, h6, h7⟩ := h
  refine ⟨⟨fun b hb hbe => (k.low b (by omega)).trans (h1 b hb hbe), Nat.le_trans h2 k.size, k.os.trans h3, k.tape.trans h4, k.output.trans h5⟩, v, (k.low e (by omega)).trans h6, ?_⟩
  refine ⟨h7.1, ?_⟩
  rcases h7.2 with h | ⟨g, cap, cur, k1, k2, k3, k4⟩
  · exact .inl h
  · exact .inr ⟨g, cap, cur, k1, k2, (k.cells _ _ _ _ k3 hT).trans k3, k4⟩
theorem RgQ.below {bt et : TypeId} {sz : Nat} {W3 : World} {n0 e m : Nat} {xs : List Value} {A B : World} (h : RgQ bt et sz W3 n0 e m xs A) (he : e < n0) (hb : Below A.heap.size A B) : RgQ bt et sz W3 n0 e m xs B :=
  h.grown he (row := none) ⟨hb.os, hb.tape, hb.output, hb.size, fun k hk _ => hb.block k hk⟩ (fun r q => by cases q)
/-- Behind an append to the row in the box. -/
theorem RgQ.appended {bt et : TypeId} {sz : Nat} {W3 : World} {n0 e m k : Nat} {xs ys : List Value} {Y w1 : World} {v v' : Value} {o2 : Obj} (h : (∀ b, b < n0 → b ≠ e → Y.heap[b]? = W3.heap[b]?) ∧ n0 ≤ Y.heap.size ∧ Y.os = W3.os ∧ Y.tape = W3.tape ∧ Y.output = W3.output) (hv : Boxed Y e bt v) (hrow : Y.ownsRow n0 et sz v m xs) (he : e < n0)
    (hown' : w1.ownsRow n0 et sz v' k ys) (hgrow : (Y.alloc o2).grownBy w1 v.ownBlock) (p : Nat → TypeId → Prop) (hpe : ¬ p e bt) (hpt : ∀ g, n0 ≤ g → ¬ p g et) :
    KeepsFrom n0 Y (w1.setCell ⟨e, 0, none⟩ v') ∧ KpP p Y (w1.setCell ⟨e, 0, none⟩ v') ∧ RgQ bt et sz W3 n0 e k ys (w1.setCell ⟨e, 0, none⟩ v') ∧ Boxed w1 e bt v := by
  obtain ⟨h1, h2, h3, h4, h5⟩ := h
  obtain ⟨b1, b2, b3, b4, b5, b6⟩ := boxed_appended hv hrow he h2 hown' hgrow
  have hsz : Y.heap.size ≤ w1.heap.size := by have := hgrow.size; simp at this; omega
  refine ⟨b4.from _, ⟨by rw [size_set]; exact hsz, fun b C t fr hb hpb => ?_⟩, ⟨⟨fun b hb hbe => ?_, by rw [size_set]; omega, ?_, ?_, ?_⟩, v', b2, b3⟩, b1⟩
  · have hbs := (Array.getElem?_eq_some_iff.1 hb).1
    have hbe : b ≠ e := fun q => by
      have hv' : Y.heap[e]? = some (.cells #[v] bt (0, 0)) := hv
      rw [q, hv'] at hb
      cases hb
      exact hpe (q ▸ hpb)
    have hno : some b ≠ v.ownBlock := fun q => by
      rcases hrow.2 with ⟨k1, _⟩ | ⟨g', cap, cur, k1, k2, k3, k4⟩
      · rw [k1] at q; cases q
      · rw [k1] at q
        obtain rfl : b = g' := by simpa [Value.ownBlock] using q
        rw [k3] at hb
        cases hb
        exact hpt b k2 hpb
    rw [heap_other _ _ _ _ _ hbe, hgrow.block b (by simp; omega) hno, Below.heap_alloc _ _ _ hbs]
  · rw [b6 b hb hbe]; exact h1 b hb hbe
  · exact (hgrow.os.trans h3)
  · exact (hgrow.tape.trans h4)
  · exact (hgrow.output.trans h5)
end Go.Proofs.Ytjllkmekchmmbaa
