/- What further arguments of circle's statements read as: small numbers, spans, lists of numbers, zeros. -/
import Derived.Test.YtebdboacmeafaaaGreatCKA
import Derived.Test.YtebdboacmeafaaaGreatCF3
set_option linter.unusedVariables false
set_option linter.unusedSimpArgs false
namespace Go.Proofs.YtebdboacmeafaaaGreat
open Go.ChangeShapes Go.WideShapes Go.ChangeAt Go.RowKit Go.Deep

section
variable {H : Type} {enc : TypeId × Value → H} {W : World} {r : Reach} {b0 base : Nat} {sp : Nat → Bool} {held : Bool} {v : Value} {d : DataW H} {p : List MemPlace}
theorem ints_of_trod {fuel : Nat} {cs : List Value} {x : DataW H × List MemPlace} (hf : DataW.trod enc Tryz.prog W base sp held fuel 26 cs = some x) : ∃ u l, cs = [u] ∧ INRow W u l ∧ l.length ≤ 9223372036854775807 ∧ P2Cap u := by
  rcases open_slice1 Tryz.underlying26 cInt hf with ⟨hcs, hx⟩ | ⟨a, len', cap', m, n, V, D, Pl, hcs, _, hl, hm, hmm, hx, hi⟩
  · exact ⟨_, [], hcs, .inl ⟨_, _, rfl, rfl⟩, by simp, _, _, _, rfl, Nat.le_refl _⟩
  · have hlm : len' ≤ m := by rw [hmm]; split <;> omega
    have hlc : len' ≤ cap' := by omega
    have hall : ∀ i, i < len' → ∃ q : Int, W.cell? (a.add i) = some (.int .i64 q) := fun i him => by
      obtain ⟨h0, t0⟩ := hi i (by omega)
      obtain ⟨x, e0, _, _⟩ := DataW.trod_int Tryz.underlying3 t0
      simp at e0
      exact ⟨x, by rw [h0, e0]⟩
    obtain ⟨q, hq⟩ := choose_lt hall
    refine ⟨_, (List.range len').map q, hcs, ?_, by simp; unfold maxLen at hm; omega, _, _, _, rfl, hlc⟩
    by_cases h0 : len' = 0
    · subst h0; exact .inl ⟨_, _, rfl, rfl⟩
    · have hx0 := hq 0 (by omega)
      have hsp : a.spot = none := by simpa [Addr.add] using World.cell?_spot hx0
      obtain ⟨b, off, spot⟩ := a
      simp only at hsp
      subst hsp
      refine .inr ⟨b, off, cap', by simp, ?_, fun i hil => ?_⟩
      · have hb : ∀ (a : Addr) (u : Value), W.cell? a = some u → a.block < W.heap.size := fun a u h => by
          unfold World.cell? at h
          split at h
          · rename_i hb; exact (Array.getElem?_eq_some_iff.1 hb).1
          · cases h
        have := hb _ _ hx0; simpa [Addr.add] using this
      · simp only [List.length_map, List.length_range] at hil
        have hx1 := hq i hil
        have hadd : (⟨b, off, none⟩ : Addr).add i = ⟨b, off + i, none⟩ := by unfold Addr.add; split <;> simp_all
        rw [hadd] at hx1
        rw [List.getD_eq_getElem?_getD, List.getElem?_map, List.getElem?_range hil]
        exact hx1
set_option maxRecDepth 100000 in
theorem open_ints (hv : Value.okWide Tryz.prog W r b0 26 v) (h : DataW.Trod enc Tryz.prog W base sp held 26 v d p) : ∃ l : List Int, INRow W v l ∧ l.length ≤ 9223372036854775807 := by
  obtain ⟨a0, len, cap, rfl⟩ := okWide_slice Tryz.underlying26 hv
  obtain ⟨fuel, hf⟩ := h
  obtain ⟨u, l, e0, hr, hl, _⟩ := ints_of_trod hf
  simp [Value.cells] at e0
  subst e0
  exact ⟨l, hr, hl⟩
set_option maxRecDepth 100000 in
theorem open_span (hv : Value.okWide Tryz.prog W r b0 36 v) (h : DataW.Trod enc Tryz.prog W base sp held 36 v d p) :
    ∃ a b : Int, v = .agg #[.int .i64 a, .int .i64 b] ∧ (-9223372036854775808 ≤ a ∧ a ≤ 9223372036854775807) ∧ (-9223372036854775808 ≤ b ∧ b ≤ 9223372036854775807) := by
  obtain ⟨x0, x1, y0, y1, n, rfl, rfl, rfl, t0, t1⟩ := Go.Joins.open_agg2 Tryz.underlying36 (by kernel_rfl) (by kernel_rfl) hv h
  obtain ⟨a, e0, _, hw0⟩ := DataW.trod_int Tryz.underlying3 t0
  obtain ⟨b, e1, _, hw1⟩ := DataW.trod_int Tryz.underlying3 t1
  cases e0; cases e1
  exact ⟨a, b, rfl, by simpa [Lit.wf, IntKind.min, IntKind.max, IntKind.signed, IntKind.bits] using hw0, by simpa [Lit.wf, IntKind.min, IntKind.max, IntKind.signed, IntKind.bits] using hw1⟩
set_option maxRecDepth 100000 in
theorem open_zeros (hv : Value.okWide Tryz.prog W r b0 38 v) (h : DataW.Trod enc Tryz.prog W base sp held 38 v d p) :
    ∃ (zc zt : Int) (o : Value) (l : List Int), v = .agg #[.int .i64 zc, .int .i64 zt, o] ∧ INRow W o l ∧ P2Cap o ∧ l.length ≤ 9223372036854775807 ∧ (-9223372036854775808 ≤ zt ∧ zt ≤ 9223372036854775807) := by
  obtain ⟨x0, x1, x2, y0, y1, y2, n, rfl, rfl, rfl, t0, t1, t2⟩ := Go.Joins.open_agg3 Tryz.underlying38 (by kernel_rfl) (by kernel_rfl) hv h
  obtain ⟨a, e0, _, _⟩ := DataW.trod_int Tryz.underlying3 t0
  obtain ⟨b, e1, _, hw1⟩ := DataW.trod_int Tryz.underlying3 t1
  obtain ⟨u, l, e2, hr, hl, hcp⟩ := ints_of_trod t2
  cases e0; cases e1; cases e2
  exact ⟨a, b, x2, l, rfl, hr, hcp, hl, by simpa [Lit.wf, IntKind.min, IntKind.max, IntKind.signed, IntKind.bits] using hw1⟩
end
end Go.Proofs.YtebdboacmeafaaaGreat
