/- A region that draws its order, inside a fence (also within a round of a range over a function): the head by the lexical walk, the tail in its own order. The text of T0's wp_region_turn, at fences. -/
import Derived.Test.YtjllkmekchmmbaaHI0
import Derived.TacticsInMore
set_option linter.unusedVariables false
set_option linter.unusedSimpArgs false
namespace Go.Proofs.Ytjllkmekchmmbaa
open Go Go.RowKit

/-- A fence that shuts nothing out. -/
structure Lax (F : Fence) : Prop where
  fn : ∀ f, F.fn f
  depth : F.depth = none
  calls : ∀ (n : Nat) (P : Program) (f : FuncId) (args : Array Value) (w : World) (R : Ending → World → Prop), Calls P f args w R → CallsIn F n P f args w R
theorem lax_wide : Lax Fence.wide := ⟨fun _ => trivial, rfl, fun _ _ _ _ _ _ h => callsIn_wide.2 h⟩
theorem lax_round (l : Nat) : Lax (Fence.wide.inRound l) := ⟨fun _ => trivial, rfl, fun _ _ _ _ _ _ h => (callsIn_wide.2 h).inRound l⟩

section
variable {F : Fence} {m : Nat} {P : Program} {ops : Array Oper} {md : Region.Mode}
def noDefer (ops : Array Oper) : Bool := ops.all fun o => match o.op with
  | .defer _ => false
  | _ => true
theorem noDefer_spec (h : noDefer ops = true) {i : Nat} {o : Oper} (ho : ops[i]? = some o) (ro : Option Nat) (ρ : Operand → Value) : o.semAt ro ρ = execOp ρ o := by
  refine Oper.semAt_eq ro ρ o fun c hc => ?_
  unfold noDefer at h
  have hm : o ∈ ops := by
    obtain ⟨hi, rfl⟩ := Array.getElem?_eq_some_iff.1 ho
    exact Array.getElem_mem hi
  have := (Array.all_eq_true_iff_forall_mem.1 h) o hm
  rw [hc] at this; cases this

theorem TurnUpon.wpIn (hF : Lax F) {o : Oper} {a : Act} {C : World → Prop} {v : Value} {K' : Act → World → Prop} {Q' : Exit → Act → World → Prop} {w : World} (hs : o.semAt F.round a.eval = execOp a.eval o)
    (h : TurnUpon P C v ((execOp a.eval o).run P w)) (hK : ∀ w', C w' → K' (a.put o.dst v) w') : o.wpIn F m P a w K' Q' := by
  unfold Oper.wpIn
  refine ⟨fun f _ => hF.fn f, ?_⟩
  rw [hs]
  generalize (execOp a.eval o).run P w = r at *
  cases r with
  | ok n w' =>
    cases n <;> simp only [TurnUpon] at h <;> simp only [Oper.uponIn]
    case value u => rw [h.2]; exact hK _ h.1
    case skip => rw [← h.2]; exact hK _ h.1
    case enter f args => exact ⟨fun h => (by rw [hF.depth] at h; cases h), hF.calls _ _ _ _ _ _ (h.mono fun e w'' ⟨he, hw⟩ => by subst he; exact hK _ hw)⟩
  | halt x w' => simp only [TurnUpon] at h

theorem wpAnyIn_of_turn (hF : Lax F) (hd : noDefer ops = true) {n g : Nat} {C : Array Bool → World → Prop} {L : Array Bool → Act → Prop} {Q' : Exit → Act → World → Prop}
    (hL : ∀ listed a w, HeadInv md ops n listed → C listed w → L listed a → wpAnyIn F m P md ops Q' g listed a w) :
    ∀ (f : Nat) (listed : Array Bool) (a : Act) (w : World), HeadInv md ops n listed → C listed w → wpAnyT P ops md n C L f listed a → wpAnyIn F m P md ops Q' (f + g) listed a w
  | 0, listed, a, w, inv, hw, h => by rw [Nat.zero_add]; exact hL _ _ _ inv hw h
  | f + 1, listed, a, w, inv, hw, h => by
    rw [show f + 1 + g = (f + g) + 1 by omega]
    refine ⟨fun h0 => absurd h0 h.1, fun i hi => ?_⟩
    obtain ⟨hin, o, v, ho, hT, hK⟩ := h.2 i hi
    unfold wpOpIn
    simp only [ho]
    rcases hT with ⟨hwt, hT⟩ | ⟨hwt, rfl, hT⟩
    · simp only [hwt, if_true]
      exact (hT listed w inv hi hw).wpIn hF (noDefer_spec hd ho _ _) fun w' hw' => wpAnyIn_of_turn hF hd hL f _ _ _ (inv.set hi hin) hw' hK
    · simp only [hwt, Bool.false_eq_true, if_false]
      exact ⟨fun f _ => hF.fn f, wpAnyIn_of_turn hF hd hL f _ _ _ (inv.set hi hin) (hT listed w inv hi hw) hK⟩

theorem wpAnyInF_of_seq {Q' : Exit → Act → World → Prop} : ∀ (l : List Oper) (k : Nat) (listed : Array Bool) (a : Act) (w : World), (∀ j, l[j]? = ops[k + j]?) →
    Region.seqB md ops l.length k listed = true → wpListIn F m P ops Q' l a w → wpAnyIn F m P md ops Q' l.length listed a w
  | [], _, _, _, _, _, hB, h => ⟨by simpa [Region.seqB] using hB, h⟩
  | o :: l, k, listed, a, w, hl, hB, h => by
    have h0 : ops[k]? = some o := by simpa using (hl 0).symm
    simp only [List.length_cons, Region.seqB, Bool.and_eq_true, decide_eq_true_eq] at hB
    refine ⟨fun h1 => (by rw [hB.1] at h1; cases h1), fun i hi => ?_⟩
    rw [hB.1] at hi
    have hik : i = k := by simpa using hi
    subst hik
    have hw : wpOpIn F m P ops Q' i (wpListIn F m P ops Q' l) a w := by unfold wpOpIn; simp only [h0]; exact h
    exact wpOpIn_mono (fun a' w' h' => wpAnyInF_of_seq l (i + 1) _ a' w' (fun j => by have := hl (j + 1); simpa [Nat.add_assoc, Nat.add_comm 1 j] using this) hB.2 h') hw

/-- The head by the lexical walk, the tail in its own order, inside a fence. -/
theorem wpIn_region_turn (hF : Lax F) {id : Nat} {Q : Exit → Act → World → Prop} {a : Act} {w : World} {l : List Oper} (n : Nat) (C : Array Bool → World → Prop) (hm : P.follows .mixedOrders = true) (hd : noDefer l.toArray = true) (hB : Region.lexTailB .any l.toArray n = true)
    (hC : C (Array.replicate l.toArray.size false) { w with drawn := w.drawn + 1 })
    (h : wpTurn P l.toArray .any n C (fun a' => ∀ listed w', (∀ i, i < n → listed.getD i false = true) → C listed w' → wpListIn F m P l.toArray Q (l.drop n) a' w') (l.take n) 0 a) : (Code.region id l.toArray true).wpIn F m P Q a w := by
  simp only [Region.lexTailB, Bool.and_eq_true, decide_eq_true_eq] at hB
  obtain ⟨⟨⟨⟨hsel, hn⟩, hs⟩, hc⟩, hlex⟩ := hB
  have hn' : n < l.length := by simpa using hn
  have htl : (l.take n).length = n := by simp; omega
  have hdl : (l.drop n).length = l.toArray.size - n := by simp
  have inv0 : HeadInv .any l.toArray n (Array.replicate l.toArray.size false) :=
    ⟨by simp, fun j oj _ hl => (by rw [getD_replicate_false] at hl; cases hl), fun t _ ht => getD_in (by simpa using ht) (getD_replicate_false _ _)⟩
  have H := wpAnyT_lex (md := .any) (g := l.toArray.size - n) hsel hs hc hn (l.take n) 0 _ a (fun j hj => by
    have hj' : j < n := by rw [htl] at hj; exact hj
    simp [hj']) (by simpa using htl) inv0 (by rw [htl]; exact hlex) h
  refine wpIn_region_any hm ?_
  have := wpAnyIn_of_turn (F := F) (m := m) (Q' := Q) hF hd (g := l.toArray.size - n) (fun listed a' w' inv hw hL => by
    have hrdy : n ∈ Region.ready .any l.toArray listed := by
      have hg : l.toArray.size - n = (l.toArray.size - n - 1) + 1 := by omega
      have h1 := hL.1
      rw [hg] at h1
      simp only [Region.seqB, Bool.and_eq_true, decide_eq_true_eq] at h1
      rw [h1.1]; simp
    have hall : ∀ i, i < n → listed.getD i false = true := fun i hi => by
      cases hli : listed.getD i false with
      | true => rfl
      | false => exact absurd hrdy (tail_waits hs hc hn inv _ i rfl hi (getD_in (by rw [inv.size]; omega) hli) n (Nat.le_refl _))
    have := wpAnyInF_of_seq (F := F) (m := m) (md := .any) (Q' := Q) (l.drop n) n listed a' w' (fun j => by simp [List.getElem?_drop]) (by rw [hdl]; exact hL.1) (hL.2 listed w' hall hw)
    rwa [hdl] at this) _ _ _ w.drew inv0 hC H
  rw [htl, show n + (l.toArray.size - n) = l.toArray.size by omega] at this
  exact this

/-- The region goes well if the invariant holds at its beginning, each operation that is ready keeps it, and at the end it gives what is wanted: inside a fence. -/
theorem wpAnyIn_inv {Q : Exit → Act → World → Prop} {Inv : Array Bool → Act → World → Prop} (hend : ∀ listed a w, Inv listed a w → Region.ready md ops listed = [] → Q .normal a w)
    (hstep : ∀ listed a w i, Inv listed a w → i ∈ Region.ready md ops listed → wpOpIn F m P ops Q i (fun a' w' => Inv (listed.setIfInBounds i true) a' w') a w) :
    ∀ (fuel : Nat) (listed : Array Bool) (a : Act) (w : World), cntF listed ≤ fuel → Inv listed a w → wpAnyIn F m P md ops Q fuel listed a w
  | 0, listed, a, w, hc, hi => by
    have hr : Region.ready md ops listed = [] := by
      cases hq : Region.ready md ops listed with
      | nil => rfl
      | cons i l =>
        have := cntF_set (mem_ready.1 (show i ∈ Region.ready md ops listed by rw [hq]; simp)).1
        omega
    exact ⟨hr, hend _ _ _ hi hr⟩
  | fuel + 1, listed, a, w, hc, hi => by
    refine ⟨fun hr => hend _ _ _ hi hr, fun i hm => wpOpIn_mono (fun a' w' h' => wpAnyIn_inv hend hstep fuel _ a' w' ?_ h') (hstep _ _ _ i hi hm)⟩
    have := cntF_set (mem_ready.1 hm).1
    omega
theorem wpIn_region_inv {id : Nat} {Q : Exit → Act → World → Prop} {a : Act} {w : World} (hm : P.follows .mixedOrders = true) (Inv : Array Bool → Act → World → Prop) (h0 : Inv (Array.replicate ops.size false) a { w with drawn := w.drawn + 1 })
    (hend : ∀ listed a w, Inv listed a w → Region.ready .any ops listed = [] → Q .normal a w)
    (hstep : ∀ listed a w i, Inv listed a w → i ∈ Region.ready .any ops listed → wpOpIn F m P ops Q i (fun a' w' => Inv (listed.setIfInBounds i true) a' w') a w) : (Code.region id ops true).wpIn F m P Q a w :=
  wpIn_region_any hm (wpAnyIn_inv hend hstep _ _ _ _ (by unfold cntF; simp [List.countP_replicate]) h0)
end
end Go.Proofs.Ytjllkmekchmmbaa
