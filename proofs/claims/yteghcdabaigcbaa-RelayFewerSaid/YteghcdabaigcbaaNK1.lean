/- The room of a net's links. -/
import Derived.Test.YteghcdabaigcbaaNK0
set_option linter.unusedVariables false
set_option linter.unusedSimpArgs false
namespace Go.Proofs.Yteghcdabaigcbaa
open Go.ChangeShapes Go.WideShapes Go.ChangeAt Go.RowKit Go.Deep

set_option maxRecDepth 100000 in
theorem net_cap {H : Type} {enc : TypeId × Value → H} {W : World} {base : Nat} {sp : Nat → Bool} {held : Bool} {r : Reach} {b0 : Nat} {st : Int} {o : Value} {d : DataW H} {p : List MemPlace} (hv : Value.okWide Try.prog W r b0 24 (ntV st o)) (h : DataW.Trod enc Try.prog W base sp held 24 (ntV st o) d p) : ∀ a n c, o = .slice a n c → n ≤ c := by
  obtain ⟨x0, x1, y0, y1, n, he, rfl, rfl, t0, t1⟩ := Go.Joins.open_agg2 Try.underlying24 (by kernel_rfl) (by kernel_rfl) hv h
  unfold ntV at he
  have e1 : o = x1 := by injection he with h1; injection h1 with h1; injection h1 with _ h1; injection h1
  subst e1
  intro a n c e
  subst e
  rcases open_slice Try.underlying22 t1 with ⟨hcs, _⟩ | ⟨a', len, cap, m, n', D, Pl, hcs, _, hl, _⟩
  · cases hcs; exact Nat.le_refl _
  · cases hcs; exact hl
end Go.Proofs.Yteghcdabaigcbaa
