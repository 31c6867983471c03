/- Package firetowerref05: Rests. -/
import Derived.Test.YtebdboacmeafaaaCF7
import Derived.Deep.DeepCutAuto
set_option linter.unusedVariables false
set_option linter.unusedSimpArgs false
namespace Go.Proofs.Ytebdboacmeafaaa
open Go Go.RowKit

/-- The least number of a thing that alone bounds the zero so, so far. -/
def rNf (A : Th → Int) (bound o : Int) (h : Th) : Int := if (A h == bound && (decide (o < 0) || decide (h.id < o))) = true then h.id else o
def rNl (A : Th → Int) (bound start : Int) (l : List Th) : Int := l.foldl (rNf A bound) start
theorem rN_step {A : Th → Int} {bound start : Int} {l : List Th} {k : Nat} (hk : k < l.length) : rNl A bound start (l.take (k + 1)) = rNf A bound (rNl A bound start (l.take k)) (l.getD k .nil) := by
  unfold rNl
  rw [List.take_succ_eq_append_getElem hk, List.foldl_append, List.getD_eq_getElem?_getD, List.getElem?_eq_getElem hk]
  rfl
theorem yr_ok {cs : List Ci} {ks : List Ck} {id t : Int} (h : yrE cs ks id t = 0) : ∃ z, ciF cs id = some z ∧ CcOk cs ks ∧ z.f ≤ t ∧ t ≤ z.t := by
  unfold yrE at h
  split at h
  · rename_i hu
    unfold usE at hu
    split at hu
    · rename_i hc
      cases hf : ciF cs id with
      | none => rw [hf] at hu; simp at hu
      | some z =>
        rw [hf] at hu
        simp only at hu
        refine ⟨z, rfl, ccE_ok hc, ?_⟩
        split at hu
        · cases hu
        · rename_i hq
          simp only [Bool.or_eq_true, decide_eq_true_eq] at hq
          omega
    · rename_i hc; exact absurd hu hc
  · rename_i hu; exact absurd h hu
def stI (b last : Int) : Int := bif b == last then 0 else -1
/-- What the reference's Rests answers. -/
def rtL (cs : List Ci) (ks : List Ck) (id t : Int) : Int := if yrE cs ks id t = 0 then max 0 (rNl (fun h => lowI ((ciF cs id).getD .nil).dr h t) (yrL cs ks id t) (stI (yrL cs ks id t) (-300)) (thL ((ciF cs id).getD .nil) ks)) else 0
def rtH (cs : List Ci) (ks : List Ck) (id t : Int) : Int := if yrE cs ks id t = 0 then max 0 (rNl (fun h => highI ((ciF cs id).getD .nil).dr h t) (yrH cs ks id t) (stI (yrH cs ks id t) 300) (thL ((ciF cs id).getD .nil) ks)) else 0
end Go.Proofs.Ytebdboacmeafaaa
