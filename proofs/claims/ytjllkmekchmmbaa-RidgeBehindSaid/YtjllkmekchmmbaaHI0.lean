/- A region that draws its order, by an invariant of what has been listed, of the frame and of the world. -/
import Derived.Test.YtjllkmekchmmbaaHA0
set_option linter.unusedVariables false
set_option linter.unusedSimpArgs false
namespace Go.Proofs.Ytjllkmekchmmbaa
open Go Go.RowKit

/-- What a slot holds once its operation is listed. -/
def onlyIf (l : Bool) (v : Value) : Value := if l = true then v else undef
theorem onlyIf_true (v : Value) : onlyIf true v = v := rfl
theorem onlyIf_false (v : Value) : onlyIf false v = undef := rfl
def cntF (l : Array Bool) : Nat := l.toList.countP (! ·)
theorem cntF_set {l : Array Bool} {i : Nat} (h : l.getD i true = false) : cntF (l.setIfInBounds i true) + 1 = cntF l := by
  unfold cntF
  rw [Array.toList_setIfInBounds]
  have hi : i < l.toList.length := by
    rcases Nat.lt_or_ge i l.size with h' | h'
    · simpa using h'
    · simp [Array.getElem?_eq_none h'] at h
  have hl : l.toList[i] = false := by
    have hi' : i < l.size := by simpa using hi
    simp [hi'] at h
    simpa using h
  generalize l.toList = x at hi hl
  clear h
  induction x generalizing i with
  | nil => simp at hi
  | cons b x ih =>
    cases i with
    | zero => simp at hl; subst hl; simp
    | succ i =>
      simp only [List.set_cons_succ, List.countP_cons, List.length_cons] at hi ⊢
      have := ih (i := i) (by omega) (by simpa using hl)
      omega

section
variable {P : Program} {ops : Array Oper} {Q : Exit → Act → World → Prop} {md : Region.Mode}
theorem wpAny_inv {Inv : Array Bool → Act → World → Prop} (hend : ∀ listed a w, Inv listed a w → Region.ready md ops listed = [] → Q .normal a w)
    (hstep : ∀ listed a w i, Inv listed a w → i ∈ Region.ready md ops listed → wpOp P ops Q i (fun a' w' => Inv (listed.setIfInBounds i true) a' w') a w) :
    ∀ (fuel : Nat) (listed : Array Bool) (a : Act) (w : World), cntF listed ≤ fuel → Inv listed a w → wpAny P md ops Q fuel listed a w
  | 0, listed, a, w, hc, hi => by
    have hr : Region.ready md ops listed = [] := by
      cases hq : Region.ready md ops listed with
      | nil => rfl
      | cons i l =>
        have := cntF_set (mem_ready.1 (show i ∈ Region.ready md ops listed by rw [hq]; simp)).1
        omega
    exact ⟨hr, hend _ _ _ hi hr⟩
  | fuel + 1, listed, a, w, hc, hi => by
    refine ⟨fun hr => hend _ _ _ hi hr, fun i hm => wpOp_mono (fun a' w' h' => wpAny_inv hend hstep fuel _ a' w' ?_ h') (hstep _ _ _ i hi hm)⟩
    have := cntF_set (mem_ready.1 hm).1
    omega
/-- The region goes well if the invariant holds at its beginning, each operation that is ready keeps it, and at the end it gives what is wanted. -/
theorem wp_region_inv {id : Nat} {a : Act} {w : World} (hm : P.follows .mixedOrders = true) (Inv : Array Bool → Act → World → Prop) (h0 : Inv (Array.replicate ops.size false) a { w with drawn := w.drawn + 1 })
    (hend : ∀ listed a w, Inv listed a w → Region.ready .any ops listed = [] → Q .normal a w)
    (hstep : ∀ listed a w i, Inv listed a w → i ∈ Region.ready .any ops listed → wpOp P ops Q i (fun a' w' => Inv (listed.setIfInBounds i true) a' w') a w) : (Code.region id ops true).wp P Q a w :=
  wp_region_any hm (wpAny_inv hend hstep _ _ _ _ (by unfold cntF; simp [List.countP_replicate]) h0)
/-- Where edges lead back only, nothing is ready only if all is listed. -/
def topB (ops : Array Oper) : Bool := (List.range ops.size).all fun i => ((ops[i]?).map fun o => o.after.all fun e => !Region.binds .any e || decide (e.on < i)).getD true
theorem ready_all {listed : Array Bool} (ht : topB ops = true) (hs : listed.size = ops.size) (hr : Region.ready .any ops listed = []) : ∀ (n j : Nat), j < n → j < ops.size → listed.getD j false = true
  | 0, j, h, _ => by omega
  | n + 1, j, h, hj => by
    have ih := ready_all ht hs hr n
    cases hl : listed.getD j true with
    | true =>
      have : j < listed.size := by omega
      simp [this] at hl ⊢; exact hl
    | false =>
      exfalso
      have hm : j ∈ Region.ready .any ops listed := by
        refine mem_ready.2 ⟨hl, ops[j], by simp [hj], fun e he hb => ?_⟩
        unfold topB at ht
        have h1 := List.all_eq_true.1 ht j (List.mem_range.2 hj)
        simp only [Array.getElem?_eq_getElem hj, Option.map_some, Option.getD_some, Array.all_eq_true_iff_forall_mem] at h1
        have h2 := h1 e he
        rw [hb] at h2
        have h3 : e.on < j := by simpa using h2
        exact ih e.on (by omega) (by omega)
      rw [hr] at hm; cases hm
end
end Go.Proofs.Ytjllkmekchmmbaa
