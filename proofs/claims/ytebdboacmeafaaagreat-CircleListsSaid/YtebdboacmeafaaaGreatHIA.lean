/- Merged: HI0, HJ0, HI5. -/
import Derived.Test.YtebdboacmeafaaaGreatHA0
import Derived.TacticsInMore
import Derived.Maps.OwnIn
import Derived.Deep.RegionHeldLaw
/- A region that draws its order, by an invariant of what has been listed, of the frame and of the world. -/
set_option linter.unusedVariables false
set_option linter.unusedSimpArgs false
namespace Go.Proofs.YtebdboacmeafaaaGreat
open Go Go.RowKit

/-- What a slot holds once its operation is listed. -/
def onlyIf (l : Bool) (v : Value) : Value := if l = true then v else undef
theorem onlyIf_true (v : Value) : onlyIf true v = v := rfl
theorem onlyIf_false (v : Value) : onlyIf false v = undef := rfl
def cntF (l : Array Bool) : Nat := l.toList.countP (! ·)
theorem cntF_set {l : Array Bool} {i : Nat} (h : l.getD i true = false) : cntF (l.setIfInBounds i true) + 1 = cntF l := by
  unfold cntF
  rw [Array.toList_setIfInBounds]
  have hi : i < l.toList.length := by
    rcases Nat.lt_or_ge i l.size with h' | h'
    · simpa using h'
    · simp [Array.getElem?_eq_none h'] at h
  have hl : l.toList[i] = false := by
    have hi' : i < l.size := by simpa using hi
    simp [hi'] at h
    simpa using h
  generalize l.toList = x at hi hl
  clear h
  induction x generalizing i with
  | nil => simp at hi
  | cons b x ih =>
    cases i with
    | zero => simp at hl; subst hl; simp
    | succ i =>
      simp only [List.set_cons_succ, List.countP_cons, List.length_cons] at hi ⊢
      have := ih (i := i) (by omega) (by simpa using hl)
      omega

section
variable {P : Program} {ops : Array Oper} {Q : Exit → Act → World → Prop} {md : Region.Mode}
theorem wpAny_inv {Inv : Array Bool → Act → World → Prop} (hend : ∀ listed a w, Inv listed a w → Region.ready md ops listed = [] → Q .normal a w)
    (hstep : ∀ listed a w i, Inv listed a w → i ∈ Region.ready md ops listed → wpOp P ops Q i (fun a' w' => Inv (listed.setIfInBounds i true) a' w') a w) :
    ∀ (fuel : Nat) (listed : Array Bool) (a : Act) (w : World), cntF listed ≤ fuel → Inv listed a w → wpAny P md ops Q fuel listed a w
  | 0, listed, a, w, hc, hi => by
    have hr : Region.ready md ops listed = [] := by
      cases hq : Region.ready md ops listed with
      | nil => rfl
      | cons i l =>
        have := cntF_set (mem_ready.1 (show i ∈ Region.ready md ops listed by rw [hq]; simp)).1
        omega
    exact ⟨hr, hend _ _ _ hi hr⟩
  | fuel + 1, listed, a, w, hc, hi => by
    refine ⟨fun hr => hend _ _ _ hi hr, fun i hm => wpOp_mono (fun a' w' h' => wpAny_inv hend hstep fuel _ a' w' ?_ h') (hstep _ _ _ i hi hm)⟩
    have := cntF_set (mem_ready.1 hm).1
    omega
/-- The region goes well if the invariant holds at its beginning, each operation that is ready keeps it, and at the end it gives what is wanted. -/
theorem wp_region_inv {id : Nat} {a : Act} {w : World} (hm : P.follows .mixedOrders = true) (Inv : Array Bool → Act → World → Prop) (h0 : Inv (Array.replicate ops.size false) a { w with drawn := w.drawn + 1 })
    (hend : ∀ listed a w, Inv listed a w → Region.ready .any ops listed = [] → Q .normal a w)
    (hstep : ∀ listed a w i, Inv listed a w → i ∈ Region.ready .any ops listed → wpOp P ops Q i (fun a' w' => Inv (listed.setIfInBounds i true) a' w') a w) : (Code.region id ops true).wp P Q a w :=
  wp_region_any hm (wpAny_inv hend hstep _ _ _ _ (by unfold cntF; simp [List.countP_replicate]) h0)
/-- Where edges lead back only, nothing is ready only if all is listed. -/
def topB (ops : Array Oper) : Bool := (List.range ops.size).all fun i => ((ops[i]?).map fun o => o.after.all fun e => !Region.binds .any e || decide (e.on < i)).getD true
theorem ready_all {listed : Array Bool} (ht : topB ops = true) (hs : listed.size = ops.size) (hr : Region.ready .any ops listed = []) : ∀ (n j : Nat), j < n → j < ops.size → listed.getD j false = true
  | 0, j, h, _ => by omega
  | n + 1, j, h, hj => by
    have ih := ready_all ht hs hr n
    cases hl : listed.getD j true with
    | true =>
      have : j < listed.size := by omega
      simp [this] at hl ⊢; exact hl
    | false =>
      exfalso
      have hm : j ∈ Region.ready .any ops listed := by
        refine mem_ready.2 ⟨hl, ops[j], by simp [hj], fun e he hb => ?_⟩
        unfold topB at ht
        have h1 := List.all_eq_true.1 ht j (List.mem_range.2 hj)
        simp only [Array.getElem?_eq_getElem hj, Option.map_some, Option.getD_some, Array.all_eq_true_iff_forall_mem] at h1
        have h2 := h1 e he
        rw [hb] at h2
        have h3 : e.on < j := by simpa using h2
        exact ih e.on (by omega) (by omega)
      rw [hr] at hm; cases hm
end
end Go.Proofs.YtebdboacmeafaaaGreat

/-! A region that draws its order, inside a fence (also within a round of a range over a function): the head by the lexical walk, the tail in its own order. The text of T0's wp_region_turn, at fences. -/
set_option linter.unusedVariables false
set_option linter.unusedSimpArgs false
namespace Go.Proofs.YtebdboacmeafaaaGreat
open Go Go.RowKit

/-- A fence that shuts nothing out. -/
structure Lax (F : Fence) : Prop where
  fn : ∀ f, F.fn f
  depth : F.depth = none
  calls : ∀ (n : Nat) (P : Program) (f : FuncId) (args : Array Value) (w : World) (R : Ending → World → Prop), Calls P f args w R → CallsIn F n P f args w R
theorem lax_wide : Lax Fence.wide := ⟨fun _ => trivial, rfl, fun _ _ _ _ _ _ h => callsIn_wide.2 h⟩
theorem lax_round (l : Nat) : Lax (Fence.wide.inRound l) := ⟨fun _ => trivial, rfl, fun _ _ _ _ _ _ h => (callsIn_wide.2 h).inRound l⟩

section
variable {F : Fence} {m : Nat} {P : Program} {ops : Array Oper} {md : Region.Mode}
def noDefer (ops : Array Oper) : Bool := ops.all fun o => match o.op with
  | .defer _ => false
  | _ => true
theorem noDefer_spec (h : noDefer ops = true) {i : Nat} {o : Oper} (ho : ops[i]? = some o) (ro : Option Nat) (ρ : Operand → Value) : o.semAt ro ρ = execOp ρ o := by
  refine Oper.semAt_eq ro ρ o fun c hc => ?_
  unfold noDefer at h
  have hm : o ∈ ops := by
    obtain ⟨hi, rfl⟩ := Array.getElem?_eq_some_iff.1 ho
    exact Array.getElem_mem hi
  have := (Array.all_eq_true_iff_forall_mem.1 h) o hm
  rw [hc] at this; cases this

theorem TurnUpon.wpIn (hF : Lax F) {o : Oper} {a : Act} {C : World → Prop} {v : Value} {K' : Act → World → Prop} {Q' : Exit → Act → World → Prop} {w : World} (hs : o.semAt F.round a.eval = execOp a.eval o)
    (h : TurnUpon P C v ((execOp a.eval o).run P w)) (hK : ∀ w', C w' → K' (a.put o.dst v) w') : o.wpIn F m P a w K' Q' := by
  unfold Oper.wpIn
  refine ⟨fun f _ => hF.fn f, ?_⟩
  rw [hs]
  generalize (execOp a.eval o).run P w = r at *
  cases r with
  | ok n w' =>
    cases n <;> simp only [TurnUpon] at h <;> simp only [Oper.uponIn]
    case value u => rw [h.2]; exact hK _ h.1
    case skip => rw [← h.2]; exact hK _ h.1
    case enter f args => exact ⟨fun h => (by rw [hF.depth] at h; cases h), hF.calls _ _ _ _ _ _ (h.mono fun e w'' ⟨he, hw⟩ => by subst he; exact hK _ hw)⟩
  | halt x w' => simp only [TurnUpon] at h

theorem wpAnyIn_of_turn (hF : Lax F) (hd : noDefer ops = true) {n g : Nat} {C : Array Bool → World → Prop} {L : Array Bool → Act → Prop} {Q' : Exit → Act → World → Prop}
    (hL : ∀ listed a w, HeadInv md ops n listed → C listed w → L listed a → wpAnyIn F m P md ops Q' g listed a w) :
    ∀ (f : Nat) (listed : Array Bool) (a : Act) (w : World), HeadInv md ops n listed → C listed w → wpAnyT P ops md n C L f listed a → wpAnyIn F m P md ops Q' (f + g) listed a w
  | 0, listed, a, w, inv, hw, h => by rw [Nat.zero_add]; exact hL _ _ _ inv hw h
  | f + 1, listed, a, w, inv, hw, h => by
    rw [show f + 1 + g = (f + g) + 1 by omega]
    refine ⟨fun h0 => absurd h0 h.1, fun i hi => ?_⟩
    obtain ⟨hin, o, v, ho, hT, hK⟩ := h.2 i hi
    unfold wpOpIn
    simp only [ho]
    rcases hT with ⟨hwt, hT⟩ | ⟨hwt, rfl, hT⟩
    · simp only [hwt, if_true]
      exact (hT listed w inv hi hw).wpIn hF (noDefer_spec hd ho _ _) fun w' hw' => wpAnyIn_of_turn hF hd hL f _ _ _ (inv.set hi hin) hw' hK
    · simp only [hwt, Bool.false_eq_true, if_false]
      exact ⟨fun f _ => hF.fn f, wpAnyIn_of_turn hF hd hL f _ _ _ (inv.set hi hin) (hT listed w inv hi hw) hK⟩

theorem wpAnyInF_of_seq {Q' : Exit → Act → World → Prop} : ∀ (l : List Oper) (k : Nat) (listed : Array Bool) (a : Act) (w : World), (∀ j, l[j]? = ops[k + j]?) →
    Region.seqB md ops l.length k listed = true → wpListIn F m P ops Q' l a w → wpAnyIn F m P md ops Q' l.length listed a w
  | [], _, _, _, _, _, hB, h => ⟨by simpa [Region.seqB] using hB, h⟩
  | o :: l, k, listed, a, w, hl, hB, h => by
    have h0 : ops[k]? = some o := by simpa using (hl 0).symm
    simp only [List.length_cons, Region.seqB, Bool.and_eq_true, decide_eq_true_eq] at hB
    refine ⟨fun h1 => (by rw [hB.1] at h1; cases h1), fun i hi => ?_⟩
    rw [hB.1] at hi
    have hik : i = k := by simpa using hi
    subst hik
    have hw : wpOpIn F m P ops Q' i (wpListIn F m P ops Q' l) a w := by unfold wpOpIn; simp only [h0]; exact h
    exact wpOpIn_mono (fun a' w' h' => wpAnyInF_of_seq l (i + 1) _ a' w' (fun j => by have := hl (j + 1); simpa [Nat.add_assoc, Nat.add_comm 1 j] using this) hB.2 h') hw

/-- The head by the lexical walk, the tail in its own order, inside a fence. -/
theorem wpIn_region_turn (hF : Lax F) {id : Nat} {Q : Exit → Act → World → Prop} {a : Act} {w : World} {l : List Oper} (n : Nat) (C : Array Bool → World → Prop) (hm : P.follows .mixedOrders = true) (hd : noDefer l.toArray = true) (hB : Region.lexTailB .any l.toArray n = true)
    (hC : C (Array.replicate l.toArray.size false) { w with drawn := w.drawn + 1 })
    (h : wpTurn P l.toArray .any n C (fun a' => ∀ listed w', (∀ i, i < n → listed.getD i false = true) → C listed w' → wpListIn F m P l.toArray Q (l.drop n) a' w') (l.take n) 0 a) : (Code.region id l.toArray true).wpIn F m P Q a w := by
  simp only [Region.lexTailB, Bool.and_eq_true, decide_eq_true_eq] at hB
  obtain ⟨⟨⟨⟨hsel, hn⟩, hs⟩, hc⟩, hlex⟩ := hB
  have hn' : n < l.length := by simpa using hn
  have htl : (l.take n).length = n := by simp; omega
  have hdl : (l.drop n).length = l.toArray.size - n := by simp
  have inv0 : HeadInv .any l.toArray n (Array.replicate l.toArray.size false) :=
    ⟨by simp, fun j oj _ hl => (by rw [getD_replicate_false] at hl; cases hl), fun t _ ht => getD_in (by simpa using ht) (getD_replicate_false _ _)⟩
  have H := wpAnyT_lex (md := .any) (g := l.toArray.size - n) hsel hs hc hn (l.take n) 0 _ a (fun j hj => by
    have hj' : j < n := by rw [htl] at hj; exact hj
    simp [hj']) (by simpa using htl) inv0 (by rw [htl]; exact hlex) h
  refine wpIn_region_any hm ?_
  have := wpAnyIn_of_turn (F := F) (m := m) (Q' := Q) hF hd (g := l.toArray.size - n) (fun listed a' w' inv hw hL => by
    have hrdy : n ∈ Region.ready .any l.toArray listed := by
      have hg : l.toArray.size - n = (l.toArray.size - n - 1) + 1 := by omega
      have h1 := hL.1
      rw [hg] at h1
      simp only [Region.seqB, Bool.and_eq_true, decide_eq_true_eq] at h1
      rw [h1.1]; simp
    have hall : ∀ i, i < n → listed.getD i false = true := fun i hi => by
      cases hli : listed.getD i false with
      | true => rfl
      | false => exact absurd hrdy (tail_waits hs hc hn inv _ i rfl hi (getD_in (by rw [inv.size]; omega) hli) n (Nat.le_refl _))
    have := wpAnyInF_of_seq (F := F) (m := m) (md := .any) (Q' := Q) (l.drop n) n listed a' w' (fun j => by simp [List.getElem?_drop]) (by rw [hdl]; exact hL.1) (hL.2 listed w' hall hw)
    rwa [hdl] at this) _ _ _ w.drew inv0 hC H
  rw [htl, show n + (l.toArray.size - n) = l.toArray.size by omega] at this
  exact this

/-- The region goes well if the invariant holds at its beginning, each operation that is ready keeps it, and at the end it gives what is wanted: inside a fence. -/
theorem wpAnyIn_inv {Q : Exit → Act → World → Prop} {Inv : Array Bool → Act → World → Prop} (hend : ∀ listed a w, Inv listed a w → Region.ready md ops listed = [] → Q .normal a w)
    (hstep : ∀ listed a w i, Inv listed a w → i ∈ Region.ready md ops listed → wpOpIn F m P ops Q i (fun a' w' => Inv (listed.setIfInBounds i true) a' w') a w) :
    ∀ (fuel : Nat) (listed : Array Bool) (a : Act) (w : World), cntF listed ≤ fuel → Inv listed a w → wpAnyIn F m P md ops Q fuel listed a w
  | 0, listed, a, w, hc, hi => by
    have hr : Region.ready md ops listed = [] := by
      cases hq : Region.ready md ops listed with
      | nil => rfl
      | cons i l =>
        have := cntF_set (mem_ready.1 (show i ∈ Region.ready md ops listed by rw [hq]; simp)).1
        omega
    exact ⟨hr, hend _ _ _ hi hr⟩
  | fuel + 1, listed, a, w, hc, hi => by
    refine ⟨fun hr => hend _ _ _ hi hr, fun i hm => wpOpIn_mono (fun a' w' h' => wpAnyIn_inv hend hstep fuel _ a' w' ?_ h') (hstep _ _ _ i hi hm)⟩
    have := cntF_set (mem_ready.1 hm).1
    omega
theorem wpIn_region_inv {id : Nat} {Q : Exit → Act → World → Prop} {a : Act} {w : World} (hm : P.follows .mixedOrders = true) (Inv : Array Bool → Act → World → Prop) (h0 : Inv (Array.replicate ops.size false) a { w with drawn := w.drawn + 1 })
    (hend : ∀ listed a w, Inv listed a w → Region.ready .any ops listed = [] → Q .normal a w)
    (hstep : ∀ listed a w i, Inv listed a w → i ∈ Region.ready .any ops listed → wpOpIn F m P ops Q i (fun a' w' => Inv (listed.setIfInBounds i true) a' w') a w) : (Code.region id ops true).wpIn F m P Q a w :=
  wpIn_region_any hm (wpAnyIn_inv hend hstep _ _ _ _ (by unfold cntF; simp [List.countP_replicate]) h0)
end
end Go.Proofs.YtebdboacmeafaaaGreat

/-! A drawn region with one operation that makes memory, inside a fence; a row in a box that a loop over an iterator appends to. -/
set_option linter.unusedVariables false
set_option linter.unusedSimpArgs false
namespace Go.Proofs.YtebdboacmeafaaaGreat
open Go Go.RowKit

section
variable {F : Fence} {m : Nat} {P : Program}
/-- The operation number j of the head turns the world into W1; all others leave it alone, but for draws: inside a fence. -/
theorem wpIn_region_one (hF : Lax F) {id : Nat} {Q : Exit → Act → World → Prop} {a : Act} {w : World} {l : List Oper} (n j : Nat) (W1 : World) (hm : P.follows .mixedOrders = true) (hd : noDefer l.toArray = true) (hB : Region.lexTailB .any l.toArray n = true) (hj : j < n)
    (h : wpOne P l.toArray w W1 j (fun a' => ∀ k, wpListIn F m P l.toArray Q (l.drop n) a' (W1.drewN k)) (l.take n) 0 a) : (Code.region id l.toArray true).wpIn F m P Q a w := by
  refine wpIn_region_turn hF n (OneC w W1 j) hm hd hB ?_ ?_
  · unfold OneC
    rw [getD_replicate_false]
    exact ⟨1, rfl⟩
  · refine wpTurn_of_one _ _ _ ?_ (by simp; omega)
    have hQ : ∀ (l' : List Oper) (k : Nat) (a : Act), wpOne P l.toArray w W1 j (fun a' => ∀ k, wpListIn F m P l.toArray Q (l.drop n) a' (W1.drewN k)) l' k a →
        wpOne P l.toArray w W1 j (fun a' => ∀ listed w', (∀ i, i < n → listed.getD i false = true) → OneC w W1 j listed w' → wpListIn F m P l.toArray Q (l.drop n) a' w') l' k a := by
      intro l'
      induction l' with
      | nil =>
        intro k a h listed w' hall hC
        obtain ⟨q, rfl⟩ : DrawsOf W1 w' := by simpa [OneC, hall j hj] using hC
        exact h q
      | cons o rest ih =>
        intro k a h
        simp only [wpOne] at h ⊢
        split
        · rename_i hw
          rw [if_pos hw] at h
          obtain ⟨v, h1, h2⟩ := h
          exact ⟨v, h1, ih _ _ h2⟩
        · rename_i hw
          rw [if_neg hw] at h
          exact ⟨h.1, ih _ _ h.2⟩
    exact hQ _ _ _ h
end

/-- A box below a row, behind an append to the row whose result goes into the box. -/
theorem boxed_appended {W w1 : World} {n₀ b : Nat} {t e : TypeId} {size : Nat} {v v' : Value} {k m : Nat} {xs ys : List Value} {tmp : Obj}
    (hv : Boxed W b t v) (hrow : W.ownsRow n₀ e size v k xs) (hb : b < n₀) (hn₀ : n₀ ≤ W.heap.size) (hown' : w1.ownsRow n₀ e size v' m ys) (hgrow : (W.alloc tmp).grownBy w1 v.ownBlock) :
    Boxed w1 b t v ∧ Boxed (w1.setCell ⟨b, 0, none⟩ v') b t v' ∧ (w1.setCell ⟨b, 0, none⟩ v').ownsRow n₀ e size v' m ys ∧ KeepsOthers W (w1.setCell ⟨b, 0, none⟩ v') ∧ (∀ n, n ≤ b → Below n W (w1.setCell ⟨b, 0, none⟩ v')) ∧
      (∀ c, c < n₀ → c ≠ b → (w1.setCell ⟨b, 0, none⟩ v').heap[c]? = W.heap[c]?) := by
  have hne : ∀ c, c < n₀ → some c ≠ v.ownBlock := fun c hc e => by have := (hrow.lt c e.symm).1; omega
  have hv1 : Boxed w1 b t v := (hv.alloc tmp).kept hgrow (hne b hb)
  refine ⟨hv1, hv1.set v', ownsRow_setCell_below hown' hb v', ?_, fun n hn => ?_, fun c hc hcb => ?_⟩
  · refine ((KeepsOthers.alloc W tmp).trans (KeepsOthers.of_grownBy hgrow fun j o ej hj => ?_)).trans (KeepsOthers.setCell _ _ _)
    rcases (hrow.alloc tmp).2 with ⟨rfl, _⟩ | ⟨g, cap, cur, rfl, _, hgb, _⟩
    · simp [Value.ownBlock] at ej
    · obtain rfl : g = j := by simpa [Value.ownBlock] using ej
      rw [hgb] at hj; cases hj; rfl
  · have h1 := ((Below.refl n W).alloc (by omega) tmp).grown hgrow (by simp; omega) (fun k e => by have := (hrow.lt k e).1; omega)
    exact h1.setCell (p := ⟨b, 0, none⟩) hn v'
  · rw [Below.heap_setCell _ _ _ c hcb, hgrow.block c (by simp; omega) (hne c hc)]
    exact Below.heap_alloc _ _ c (by omega)
/-- A row in a box, which lie beyond n0 and at e; all else below n0 lies as it lay. -/
def RgQ (bt et : TypeId) (sz : Nat) (W3 : World) (n0 e : Nat) (m : Nat) (xs : List Value) (Y : World) : Prop := ((∀ b, b < n0 → b ≠ e → Y.heap[b]? = W3.heap[b]?) ∧ n0 ≤ Y.heap.size ∧ Y.os = W3.os ∧ Y.tape = W3.tape ∧ Y.output = W3.output) ∧ ∃ v, Boxed Y e bt v ∧ Y.ownsRow n0 et sz v m xs
theorem RgQ.grown {bt et : TypeId} {sz : Nat} {W3 : World} {n0 e m : Nat} {xs : List Value} {A B : World} {row : Option Nat} (h : RgQ bt et sz W3 n0 e m xs A) (he : e < n0) (hg : A.grownBy B row) (hr : ∀ r, row = some r → n0 ≤ r ∧ ∃ o : Obj, A.heap[r]? = some o ∧ o.isCells = false) : RgQ bt et sz W3 n0 e m xs B := by
  obtain ⟨⟨h1, h2, h3, h4, h5⟩, v, h6, h7⟩ := h
  have hne : ∀ b, b < n0 → some b ≠ row := fun b hb q => by have := (hr b q.symm).1; omega
  refine ⟨⟨fun b hb hbe => ?_, Nat.le_trans h2 hg.size, hg.os.trans h3, hg.tape.trans h4, hg.output.trans h5⟩, v, h6.kept hg (hne e he), h7.kept hg ?_⟩
  · rw [hg.block b (by omega) (hne b hb)]; exact h1 b hb hbe
  · cases hv : v.ownBlock with
    | none => exact .inl rfl
    | some g =>
      refine .inr (fun q => ?_)
      obtain ⟨_, o, ho, hoc⟩ := hr g q.symm
      rcases h7.2 with ⟨k1, _⟩ | ⟨g', cap, cur, k1, k2, k3, _⟩
      · rw [k1] at hv; cases hv
      · rw [k1] at hv
        obtain rfl : g' = g := by simpa [Value.ownBlock] using hv
        rw [k3] at ho; cases ho; cases hoc
theorem RgQ.own {bt et T : TypeId} {sz : Nat} {W3 : World} {n0 e m n : Nat} {xs : List Value} {A B : World} (h : RgQ bt et sz W3 n0 e m xs A) (he : e < n0) (k : OwnTo T n A B) (hn : n0 ≤ n) (hT : et ≠ T) : RgQ bt et sz W3 n0 e m xs B := by
  obtain ⟨⟨h1, h2, h3, h4, h5⟩, v, h6, h7⟩ := h
  refine ⟨⟨fun b hb hbe => (k.low b (by omega)).trans (h1 b hb hbe), Nat.le_trans h2 k.size, k.os.trans h3, k.tape.trans h4, k.output.trans h5⟩, v, (k.low e (by omega)).trans h6, ?_⟩
  refine ⟨h7.1, ?_⟩
  rcases h7.2 with h | ⟨g, cap, cur, k1, k2, k3, k4⟩
  · exact .inl h
  · exact .inr ⟨g, cap, cur, k1, k2, (k.cells _ _ _ _ k3 hT).trans k3, k4⟩
theorem RgQ.below {bt et : TypeId} {sz : Nat} {W3 : World} {n0 e m : Nat} {xs : List Value} {A B : World} (h : RgQ bt et sz W3 n0 e m xs A) (he : e < n0) (hb : Below A.heap.size A B) : RgQ bt et sz W3 n0 e m xs B :=
  h.grown he (row := none) ⟨hb.os, hb.tape, hb.output, hb.size, fun k hk _ => hb.block k hk⟩ (fun r q => by cases q)
/-- Behind an append to the row in the box. -/
theorem RgQ.appended {bt et : TypeId} {sz : Nat} {W3 : World} {n0 e m k : Nat} {xs ys : List Value} {Y w1 : World} {v v' : Value} {o2 : Obj} (h : (∀ b, b < n0 → b ≠ e → Y.heap[b]? = W3.heap[b]?) ∧ n0 ≤ Y.heap.size ∧ Y.os = W3.os ∧ Y.tape = W3.tape ∧ Y.output = W3.output) (hv : Boxed Y e bt v) (hrow : Y.ownsRow n0 et sz v m xs) (he : e < n0)
    (hown' : w1.ownsRow n0 et sz v' k ys) (hgrow : (Y.alloc o2).grownBy w1 v.ownBlock) (p : Nat → TypeId → Prop) (hpe : ¬ p e bt) (hpt : ∀ g, n0 ≤ g → ¬ p g et) :
    KeepsFrom n0 Y (w1.setCell ⟨e, 0, none⟩ v') ∧ KpP p Y (w1.setCell ⟨e, 0, none⟩ v') ∧ RgQ bt et sz W3 n0 e k ys (w1.setCell ⟨e, 0, none⟩ v') ∧ Boxed w1 e bt v := by
  obtain ⟨h1, h2, h3, h4, h5⟩ := h
  obtain ⟨b1, b2, b3, b4, b5, b6⟩ := boxed_appended hv hrow he h2 hown' hgrow
  have hsz : Y.heap.size ≤ w1.heap.size := by have := hgrow.size; simp at this; omega
  refine ⟨b4.from _, ⟨by rw [size_set]; exact hsz, fun b C t fr hb hpb => ?_⟩, ⟨⟨fun b hb hbe => ?_, by rw [size_set]; omega, ?_, ?_, ?_⟩, v', b2, b3⟩, b1⟩
  · have hbs := (Array.getElem?_eq_some_iff.1 hb).1
    have hbe : b ≠ e := fun q => by
      have hv' : Y.heap[e]? = some (.cells #[v] bt (0, 0)) := hv
      rw [q, hv'] at hb
      cases hb
      exact hpe (q ▸ hpb)
    have hno : some b ≠ v.ownBlock := fun q => by
      rcases hrow.2 with ⟨k1, _⟩ | ⟨g', cap, cur, k1, k2, k3, k4⟩
      · rw [k1] at q; cases q
      · rw [k1] at q
        obtain rfl : b = g' := by simpa [Value.ownBlock] using q
        rw [k3] at hb
        cases hb
        exact hpt b k2 hpb
    rw [heap_other _ _ _ _ _ hbe, hgrow.block b (by simp; omega) hno, Below.heap_alloc _ _ _ hbs]
  · rw [b6 b hb hbe]; exact h1 b hb hbe
  · exact (hgrow.os.trans h3)
  · exact (hgrow.tape.trans h4)
  · exact (hgrow.output.trans h5)
end Go.Proofs.YtebdboacmeafaaaGreat

/-! A region that draws its order: the head by an invariant, the tail in its own order, inside a fence. -/
set_option linter.unusedVariables false
set_option linter.unusedSimpArgs false
namespace Go.Proofs.YtebdboacmeafaaaGreat
open Go Go.RowKit

section
variable {F : Fence} {m : Nat} {P : Program} {ops : Array Oper}
def cntH (n : Nat) (l : Array Bool) : Nat := (List.range n).countP fun i => !l.getD i false
theorem cntH_zero {n : Nat} {l : Array Bool} (h : cntH n l = 0) : ∀ i, i < n → l.getD i false = true := fun i hi => by
  have := List.countP_eq_zero.1 h i (List.mem_range.2 hi)
  simpa using this
theorem countP_set {i : Nat} {l : Array Bool} (hi : l.getD i true = false) : ∀ (xs : List Nat), xs.Nodup → i ∈ xs → (xs.countP fun j => !(l.setIfInBounds i true).getD j false) + 1 = xs.countP fun j => !l.getD j false
  | [], _, h => by simp at h
  | x :: xs, hn, h => by
    have his : i < l.size := by
      rcases Nat.lt_or_ge i l.size with h' | h'
      · exact h'
      · simp [Array.getElem?_eq_none h'] at hi
    have h1 : (l.setIfInBounds i true).getD i false = true := by simp [his]
    have h2 : l.getD i false = false := by simp [his] at hi ⊢; exact hi
    rcases List.mem_cons.1 h with rfl | h
    · have hx : i ∉ xs := (List.nodup_cons.1 hn).1
      have hc : (xs.countP fun j => !(l.setIfInBounds i true).getD j false) = xs.countP fun j => !l.getD j false := by
        refine List.countP_congr fun j hj => ?_
        rw [getD_set_ne false (fun e => hx (by rw [e]; exact hj))]
      rw [List.countP_cons, List.countP_cons, hc, h1, h2]; simp
    · have hx : x ≠ i := fun e => (List.nodup_cons.1 hn).1 (e ▸ h)
      have ih := countP_set hi xs (List.nodup_cons.1 hn).2 h
      rw [List.countP_cons, List.countP_cons, getD_set_ne false (Ne.symm hx)]
      omega
theorem cntH_set {n i : Nat} {l : Array Bool} (hi : l.getD i true = false) (hin : i < n) : cntH n (l.setIfInBounds i true) + 1 = cntH n l :=
  countP_set hi _ List.nodup_range (List.mem_range.2 hin)
/-- All of the head is listed, and nothing of the tail. -/
theorem listed_eq {n : Nat} {listed : Array Bool} (inv : HeadInv .any ops n listed) (hall : ∀ i, i < n → listed.getD i false = true) (hn : n ≤ ops.size) : listed = (List.replicate n true ++ List.replicate (ops.size - n) false).toArray := by
  apply Array.ext
  · simp [inv.size]; omega
  · intro i h1 h2
    by_cases hi : i < n
    · have := hall i hi
      simp [h1] at this
      simp [this, List.getElem_append, hi]
    · have h3 : i < ops.size := by rw [inv.size] at h1; exact h1
      have := inv.tail i (by omega) h3
      simp [h1] at this
      simp [this, List.getElem_append, hi]
theorem wpAnyIn_invtail {n : Nat} {Q : Exit → Act → World → Prop} {Inv : Array Bool → Act → World → Prop} (htop : topB ops = true) (hs : Region.sinkB .any ops n = true) (hc : Region.chainB .any ops n = true) (hn : n < ops.size)
    (hseq : Region.seqB .any ops (ops.size - n) n (List.replicate n true ++ List.replicate (ops.size - n) false).toArray = true)
    (hend : ∀ listed a w, Inv listed a w → (∀ i, i < n → listed.getD i false = true) → wpListIn F m P ops Q (ops.toList.drop n) a w)
    (hstep : ∀ listed a w i, Inv listed a w → i ∈ Region.ready .any ops listed → i < n → wpOpIn F m P ops Q i (fun a' w' => Inv (listed.setIfInBounds i true) a' w') a w) :
    ∀ (f : Nat) (listed : Array Bool) (a : Act) (w : World), HeadInv .any ops n listed → cntH n listed = f → Inv listed a w → wpAnyIn F m P .any ops Q (f + (ops.size - n)) listed a w
  | 0, listed, a, w, inv, hcnt, hi => by
    have hall := cntH_zero hcnt
    have he := listed_eq inv hall (Nat.le_of_lt hn)
    rw [Nat.zero_add]
    have hl : (ops.toList.drop n).length = ops.size - n := by simp
    have := wpAnyInF_of_seq (F := F) (m := m) (md := .any) (Q' := Q) (P := P) (ops := ops) (ops.toList.drop n) n listed a w (fun j => by simp [List.getElem?_drop]) (by rw [hl, he]; exact hseq) (hend _ _ _ hi hall)
    rwa [hl] at this
  | f + 1, listed, a, w, inv, hcnt, hi => by
    have hne : ¬ ∀ i, i < n → listed.getD i false = true := fun h => by
      have : cntH n listed = 0 := by
        unfold cntH
        rw [List.countP_eq_zero]
        intro i hi; simp [h i (List.mem_range.1 hi)]
      omega
    rw [show f + 1 + (ops.size - n) = (f + (ops.size - n)) + 1 by omega]
    refine ⟨fun hr => absurd (fun i hi' => ready_all htop inv.size hr (i + 1) i (by omega) (by omega)) hne, fun i hm => ?_⟩
    have hin : i < n := by
      rcases Nat.lt_or_ge i n with h | h
      · exact h
      · exfalso
        refine hne fun k hk => ?_
        cases hlk : listed.getD k false with
        | true => rfl
        | false => exact absurd hm (tail_waits hs hc hn inv _ k rfl hk (getD_in (by rw [inv.size]; omega) hlk) i h)
    have hu := (mem_ready.1 hm).1
    exact wpOpIn_mono (fun a' w' h' => wpAnyIn_invtail htop hs hc hn hseq hend hstep f _ a' w' (inv.set hm hin) (by have := cntH_set hu hin; omega) h') (hstep _ _ _ i hi hm hin)
theorem wpIn_region_invtail {id : Nat} {Q : Exit → Act → World → Prop} {a : Act} {w : World} (n : Nat) (hm : P.follows .mixedOrders = true) (htop : topB ops = true) (hs : Region.sinkB .any ops n = true) (hc : Region.chainB .any ops n = true) (hn : n < ops.size)
    (hseq : Region.seqB .any ops (ops.size - n) n (List.replicate n true ++ List.replicate (ops.size - n) false).toArray = true)
    (Inv : Array Bool → Act → World → Prop) (h0 : Inv (Array.replicate ops.size false) a { w with drawn := w.drawn + 1 })
    (hend : ∀ listed a w, Inv listed a w → (∀ i, i < n → listed.getD i false = true) → wpListIn F m P ops Q (ops.toList.drop n) a w)
    (hstep : ∀ listed a w i, Inv listed a w → i ∈ Region.ready .any ops listed → i < n → wpOpIn F m P ops Q i (fun a' w' => Inv (listed.setIfInBounds i true) a' w') a w) : (Code.region id ops true).wpIn F m P Q a w := by
  have inv0 : HeadInv .any ops n (Array.replicate ops.size false) :=
    ⟨by simp, fun j oj _ hl => (by rw [getD_replicate_false] at hl; cases hl), fun t _ ht => getD_in (by simpa using ht) (getD_replicate_false _ _)⟩
  refine wpIn_region_any hm ?_
  have h := wpAnyIn_invtail (F := F) (m := m) (P := P) (Q := Q) htop hs hc hn hseq hend hstep (cntH n (Array.replicate ops.size false)) _ a _ inv0 rfl h0
  have hc0 : cntH n (Array.replicate ops.size false) = n := by
    unfold cntH
    rw [show ((fun i => !(Array.replicate ops.size false).getD i false) : Nat → Bool) = fun _ => true from funext fun i => by rw [getD_replicate_false]; rfl]
    simp
  rw [hc0, show n + (ops.size - n) = ops.size by omega] at h
  exact h
end
end Go.Proofs.YtebdboacmeafaaaGreat

/-! A row in a box, behind an append of what lies in memory already. -/
set_option linter.unusedVariables false
set_option linter.unusedSimpArgs false
namespace Go.Proofs.YtebdboacmeafaaaGreat
open Go Go.RowKit

/-- A box below a row, behind an append to the row whose result goes into the box. -/
theorem boxed_appended2 {W w1 : World} {n₀ b : Nat} {t e : TypeId} {size : Nat} {v v' : Value} {k m : Nat} {xs ys : List Value}
    (hv : Boxed W b t v) (hrow : W.ownsRow n₀ e size v k xs) (hb : b < n₀) (hn₀ : n₀ ≤ W.heap.size) (hown' : w1.ownsRow n₀ e size v' m ys) (hgrow : W.grownBy w1 v.ownBlock) :
    Boxed w1 b t v ∧ Boxed (w1.setCell ⟨b, 0, none⟩ v') b t v' ∧ (w1.setCell ⟨b, 0, none⟩ v').ownsRow n₀ e size v' m ys ∧ KeepsOthers W (w1.setCell ⟨b, 0, none⟩ v') ∧ (∀ n, n ≤ b → Below n W (w1.setCell ⟨b, 0, none⟩ v')) ∧
      (∀ c, c < n₀ → c ≠ b → (w1.setCell ⟨b, 0, none⟩ v').heap[c]? = W.heap[c]?) := by
  have hne : ∀ c, c < n₀ → some c ≠ v.ownBlock := fun c hc e => by have := (hrow.lt c e.symm).1; omega
  have hv1 : Boxed w1 b t v := hv.kept hgrow (hne b hb)
  refine ⟨hv1, hv1.set v', ownsRow_setCell_below hown' hb v', ?_, fun n hn => ?_, fun c hc hcb => ?_⟩
  · refine (KeepsOthers.of_grownBy hgrow fun j o ej hj => ?_).trans (KeepsOthers.setCell _ _ _)
    rcases hrow.2 with ⟨rfl, _⟩ | ⟨g, cap, cur, rfl, _, hgb, _⟩
    · simp [Value.ownBlock] at ej
    · obtain rfl : g = j := by simpa [Value.ownBlock] using ej
      rw [hgb] at hj; cases hj; rfl
  · have h1 := (Below.refl n W).grown hgrow (by omega) (fun k e => by have := (hrow.lt k e).1; omega)
    exact h1.setCell (p := ⟨b, 0, none⟩) hn v'
  · rw [Below.heap_setCell _ _ _ c hcb, hgrow.block c (by omega) (hne c hc)]

/-- Behind an append to the row in the box. -/
theorem RgQ.appended2 {bt et : TypeId} {sz : Nat} {W3 : World} {n0 e m k : Nat} {xs ys : List Value} {Y w1 : World} {v v' : Value} (h : (∀ b, b < n0 → b ≠ e → Y.heap[b]? = W3.heap[b]?) ∧ n0 ≤ Y.heap.size ∧ Y.os = W3.os ∧ Y.tape = W3.tape ∧ Y.output = W3.output) (hv : Boxed Y e bt v) (hrow : Y.ownsRow n0 et sz v m xs) (he : e < n0)
    (hown' : w1.ownsRow n0 et sz v' k ys) (hgrow : Y.grownBy w1 v.ownBlock) (p : Nat → TypeId → Prop) (hpe : ¬ p e bt) (hpt : ∀ g, n0 ≤ g → ¬ p g et) :
    KeepsFrom n0 Y (w1.setCell ⟨e, 0, none⟩ v') ∧ KpP p Y (w1.setCell ⟨e, 0, none⟩ v') ∧ RgQ bt et sz W3 n0 e k ys (w1.setCell ⟨e, 0, none⟩ v') ∧ Boxed w1 e bt v := by
  obtain ⟨h1, h2, h3, h4, h5⟩ := h
  obtain ⟨b1, b2, b3, b4, b5, b6⟩ := boxed_appended2 hv hrow he h2 hown' hgrow
  have hsz : Y.heap.size ≤ w1.heap.size := hgrow.size
  refine ⟨b4.from _, ⟨by rw [size_set]; exact hsz, fun b C t fr hb hpb => ?_⟩, ⟨⟨fun b hb hbe => ?_, by rw [size_set]; omega, ?_, ?_, ?_⟩, v', b2, b3⟩, b1⟩
  · have hbs := (Array.getElem?_eq_some_iff.1 hb).1
    have hbe : b ≠ e := fun q => by
      have hv' : Y.heap[e]? = some (.cells #[v] bt (0, 0)) := hv
      rw [q, hv'] at hb
      cases hb
      exact hpe (q ▸ hpb)
    have hno : some b ≠ v.ownBlock := fun q => by
      rcases hrow.2 with ⟨k1, _⟩ | ⟨g', cap, cur, k1, k2, k3, k4⟩
      · rw [k1] at q; cases q
      · rw [k1] at q
        obtain rfl : b = g' := by simpa [Value.ownBlock] using q
        rw [k3] at hb
        cases hb
        exact hpt b k2 hpb
    rw [heap_other _ _ _ _ _ hbe, hgrow.block b (by omega) hno]
  · rw [b6 b hb hbe]; exact h1 b hb hbe
  · exact (hgrow.os.trans h3)
  · exact (hgrow.tape.trans h4)
  · exact (hgrow.output.trans h5)
end Go.Proofs.YtebdboacmeafaaaGreat
/- append to an own row as a step of a region that draws its order. -/
set_option linter.unusedVariables false
set_option linter.unusedSimpArgs false
namespace Go.Proofs.YtebdboacmeafaaaGreat
open Go Go.RowKit

/-- append to an own row, as one step of a region that draws. -/
theorem step_append_own {P : Program} {ops : Array Oper} {o : Oper} {a : Act} {w : World} {K : Act → World → Prop} {Q : Exit → Act → World → Prop} {E : Prop}
    (hg : o.guard = none) (s x : Operand) (t : TypeId) (hop : o.op = Op.call { callee := Callee.builtin Builtin.append, args := #[s, x], argTypes := #[t, t] })
    (e : TypeId) (i : TypeInfo) (z : Value) (size bytes : Nat) (h1 : P.underlying t = some (.slice e)) (h2 : P.info? e = some i) (h3 : i.zero = some z) (h4 : i.size = size) (h5 : i.bytes = bytes) (h6 : z.cells.size = size) (h7 : 0 < size)
    (base : Nat) (v : Value) (n : Nat) (olds : List Value) (hs : a.eval s = v) (hown : w.ownsRow base e size v n olds)
    (ad : Addr) (m c : Nat) (news : List Value) (hx : a.eval x = .slice (some ad) m c) (hn : news.length = m * size) (hc : ∀ j u, news[j]? = some u → w.cell? (ad.add j) = some u) (h1c : ∀ u ∈ news, u.oneCell' = true)
    (b1 : n + m ≤ maxLen) (b2 : (n + m) * bytes ≤ 140737488355328) (hb : base ≤ w.heap.size)
    (hK : ∀ v' w', w'.ownsRow base e size v' (n + m) (olds ++ news) → w.grownBy w' v.ownBlock → K (a.put o.dst v') w') :
    if Region.wanted o (yielded ops a.tmps) = true then Oper.wp P o a w K Q else E := by
  have hw : Region.wanted o (yielded ops a.tmps) = true := by simp [Region.wanted, hg]
  rw [if_pos hw]
  obtain ⟨v', w', hrun, r1, r2, _⟩ := run_append_own (P := P) w base t o.type e i z size bytes h1 h2 h3 h4 h5 h6 h7 v n olds hown ad m c news hn hc h1c b1 b2 hb
  unfold Oper.wp
  simp [execOp, hop, resolve, invoke, builtin, hs, hx, hrun, Result.andThen]
  exact hK v' w' r1 r2
theorem row_form {w : World} {base : Nat} {e : TypeId} {size : Nat} {v : Value} {n : Nat} {xs : List Value} (h : w.ownsRow base e size v n xs) : ∃ a c, v = .slice a n c := by
  rcases h.2 with ⟨h1, h2⟩ | ⟨g, cap, cur, h1, _⟩
  · exact ⟨none, 0, by rw [h1, h2]⟩
  · exact ⟨_, _, h1⟩
theorem made_a (w : World) (e : TypeId) (sz : Nat) : ((w.alloc (.cells #[] e)).drew).ownsRow w.heap.size e sz (.slice (some ⟨w.heap.size, 0, none⟩) 0 0) 0 [] :=
  World.ownsRow_made (base := w.heap.size) (e := e) (size := sz) w.drew #[] 0 (Nat.le_refl _) (by unfold maxLen; omega) (by simp)
theorem made_b (w : World) (N : Obj) (e : TypeId) (sz : Nat) : (((w.alloc (.cells #[] e)).alloc N).drew).ownsRow w.heap.size e sz (.slice (some ⟨w.heap.size, 0, none⟩) 0 0) 0 [] :=
  (World.ownsRow_made (base := w.heap.size) (e := e) (size := sz) w.drew #[] 0 (Nat.le_refl _) (by unfold maxLen; omega) (by simp)).alloc N
theorem made_c (w : World) (N : Obj) (e : TypeId) (sz : Nat) : (((w.alloc N).alloc (.cells #[] e)).drew).ownsRow w.heap.size e sz (.slice (some ⟨w.heap.size + 1, 0, none⟩) 0 0) 0 [] := by
  have h := World.ownsRow_made (base := w.heap.size) (e := e) (size := sz) (w.drew.alloc N) #[] 0 (by simp) (by unfold maxLen; omega) (by simp)
  have e' : (w.drew.alloc N).heap.size = w.heap.size + 1 := by simp
  rw [e'] at h
  exact h
theorem nf_b {w w5 : World} {B N : Obj} {row : Option Nat} (hg : (((w.alloc B).alloc N).drew).grownBy w5 row) (hr : row = some w.heap.size) : w5.heap[w.heap.size + 1]? = some N := by
  rw [hg.block (w.heap.size + 1) (by simp) (by rw [hr]; simp)]
  have h := heap_alloc_new (w.alloc B) N
  rw [show (w.alloc B).heap.size = w.heap.size + 1 by simp] at h
  exact h
theorem nf_c {w w5 : World} {B N : Obj} {row : Option Nat} (hg : (((w.alloc N).alloc B).drew).grownBy w5 row) (hr : row = some (w.heap.size + 1)) : w5.heap[w.heap.size]? = some N := by
  rw [hg.block w.heap.size (by simp; omega) (by rw [hr]; simp)]
  show ((w.alloc N).alloc B).heap[w.heap.size]? = _
  rw [gNe _ _ _ (by simp)]
  exact heap_alloc_new w N
theorem own_neJ {w : World} {b c : Nat} {e t : TypeId} {size : Nat} {v : Value} {n : Nat} {xs : List Value} {C : Array Value} {f : Nat × Nat} (h : w.ownsRow c e size v n xs) (hc : w.heap[b]? = some (.cells C t f)) (ht : t ≠ e) : some b ≠ v.ownBlock := by
  rcases h with ⟨h1, ⟨rfl, _⟩ | ⟨g, cap, cur, rfl, k2, k3, _⟩⟩
  · simp [Value.ownBlock]
  · intro q
    obtain rfl : b = g := by simpa [Value.ownBlock] using q
    rw [k3] at hc; cases hc; exact ht rfl
theorem four_cellsJ (w : World) (A B C D : Array Value) (t u v s : TypeId) {W : World} (hb : Below ((((w.alloc (.cells A t)).alloc (.cells B u)).alloc (.cells C v)).alloc (.cells D s)).heap.size ((((w.alloc (.cells A t)).alloc (.cells B u)).alloc (.cells C v)).alloc (.cells D s)) W) :
    W.heap[w.heap.size]? = some (.cells A t (0, 0)) ∧ W.heap[w.heap.size + 1]? = some (.cells B u (0, 0)) ∧ W.heap[w.heap.size + 2]? = some (.cells C v (0, 0)) ∧ W.heap[w.heap.size + 3]? = some (.cells D s (0, 0)) ∧ w.heap.size + 3 < W.heap.size ∧ Below w.heap.size w W := by
  have s1 : (w.alloc (.cells A t)).heap.size = w.heap.size + 1 := by simp
  have s2 : ((w.alloc (.cells A t)).alloc (.cells B u)).heap.size = w.heap.size + 2 := by simp
  have s3 : (((w.alloc (.cells A t)).alloc (.cells B u)).alloc (.cells C v)).heap.size = w.heap.size + 3 := by simp
  have s4 : ((((w.alloc (.cells A t)).alloc (.cells B u)).alloc (.cells C v)).alloc (.cells D s)).heap.size = w.heap.size + 4 := by simp
  refine ⟨?_, ?_, ?_, ?_, ?_, ?_⟩
  · rw [hb.block _ (by omega), gNe _ _ _ (by omega), gNe _ _ _ (by omega), gNe _ _ _ (by omega)]; exact heap_alloc_new _ _
  · rw [hb.block _ (by omega), gNe _ _ _ (by omega), gNe _ _ _ (by omega), ← s1]; exact heap_alloc_new _ _
  · rw [hb.block _ (by omega), gNe _ _ _ (by omega), ← s2]; exact heap_alloc_new _ _
  · rw [hb.block _ (by omega), ← s3]; exact heap_alloc_new _ _
  · have := hb.size; omega
  · exact (((((Below.refl _ w).alloc (Nat.le_refl _) _).alloc (by omega) _).alloc (by omega) _).alloc (by omega) _).trans (hb.mono (by omega))
theorem row_set {w : World} {base : Nat} {e : TypeId} {size : Nat} {v : Value} {n : Nat} {xs : List Value} (h : w.ownsRow base e size v n xs) {q : Nat} {C : Array Value} {t : TypeId} {fr : Nat × Nat} (hq : w.heap[q]? = some (Obj.cells C t fr)) (hne : t ≠ e) (k : Nat) (u : Value) : (w.setCell ⟨q, k, none⟩ u).ownsRow base e size v n xs :=
  have hb : Below q w (w.setCell ⟨q, k, none⟩ u) := by
    refine Below.setCell (Below.refl q w) ?_ u
    exact Nat.le_refl q
  World.ownsRow.kept h (row := some q) ⟨hb.os, hb.tape, hb.output, by simp, fun b hb hn => heap_other _ _ _ _ _ (fun e => hn (by rw [e]))⟩ (.inr (fun e => own_neJ h hq hne e.symm))
theorem one_ints {g : List Int} : ∀ u ∈ g.map (Value.int .i64 ·), u.oneCell' = true := fun u hu => by
  obtain ⟨x, _, rfl⟩ := List.mem_map.1 hu
  rfl
/-- What stands behind a statement, joined from all its ways. -/
theorem seq_join {P : Program} {Q : Exit → Act → World → Prop} {a : Act} {w : World} {x y : Code} (Mid : Act → World → Prop) (h1 : x.wp P (Exit.then Mid Q) a w) (h2 : ∀ a' w', Mid a' w' → y.wp P Q a' w') : (Code.seq x y).wp P Q a w :=
  wp_seq (wp_mono h1 (fun e a w h => by cases e <;> first | exact h2 _ _ h | exact h))
/-- The results of a function that lie in two boxes. -/
theorem res_cells {P : Program} {fn : Func} {p q : Tmp} {tyA tyB : TypeId} (h : fn.results = #[.cell p tyA, .cell q tyB]) (tmps : Array Value) (w : World) (A B : Nat) (tA tB : TypeId) (cA cB : Array Value) (frA frB : Nat × Nat) (dA dB : TypeDesc)
    (hp : tmps.getD p undef = .pointer (some ⟨A, 0, none⟩)) (hgA : w.heap[A]? = some (.cells cA tA frA)) (hq : tmps.getD q undef = .pointer (some ⟨B, 0, none⟩)) (hgB : w.heap[B]? = some (.cells cB tB frB))
    (huA : P.underlying tyA = some dA) (hdA : (match dA with | .struct _ | .array _ _ => true | _ => false) = true) (hiA : (P.info? tyA).map (·.size) = some cA.size)
    (huB : P.underlying tyB = some dB) (hdB : (match dB with | .struct _ | .array _ _ => true | _ => false) = true) (hiB : (P.info? tyB).map (·.size) = some cB.size) :
    (results fn tmps).run P w = .ok (.tuple #[.agg cA, .agg cB]) w := by
  have hp' : tmps[p]?.getD undef = .pointer (some ⟨A, 0, none⟩) := by simpa using hp
  have hq' : tmps[q]?.getD undef = .pointer (some ⟨B, 0, none⟩) := by simpa using hq
  simp [results, h, asAddr, hp', hq', run_loadVar_row w A tA tyA cA frA dA hgA huA hdA hiA, run_loadVar_row w B tB tyB cB frB dB hgB huB hdB hiB, Sem.run_bind, Result.andThen]
end Go.Proofs.YtebdboacmeafaaaGreat
/- A region that draws its order: the head by an invariant, the tail in its own order. -/
set_option linter.unusedVariables false
set_option linter.unusedSimpArgs false
namespace Go.Proofs.YtebdboacmeafaaaGreat
open Go Go.RowKit

section
variable {P : Program} {ops : Array Oper}
theorem wpAny_invtail {n : Nat} {Q : Exit → Act → World → Prop} {Inv : Array Bool → Act → World → Prop} (htop : topB ops = true) (hs : Region.sinkB .any ops n = true) (hc : Region.chainB .any ops n = true) (hn : n < ops.size)
    (hseq : Region.seqB .any ops (ops.size - n) n (List.replicate n true ++ List.replicate (ops.size - n) false).toArray = true)
    (hend : ∀ listed a w, Inv listed a w → (∀ i, i < n → listed.getD i false = true) → wpList P ops Q (ops.toList.drop n) a w)
    (hstep : ∀ listed a w i, Inv listed a w → i ∈ Region.ready .any ops listed → i < n → wpOp P ops Q i (fun a' w' => Inv (listed.setIfInBounds i true) a' w') a w) :
    ∀ (f : Nat) (listed : Array Bool) (a : Act) (w : World), HeadInv .any ops n listed → cntH n listed = f → Inv listed a w → wpAny P .any ops Q (f + (ops.size - n)) listed a w
  | 0, listed, a, w, inv, hcnt, hi => by
    have hall := cntH_zero hcnt
    have he := listed_eq inv hall (Nat.le_of_lt hn)
    rw [Nat.zero_add]
    have hl : (ops.toList.drop n).length = ops.size - n := by simp
    have := wpAny_of_seq (md := .any) (Q' := Q) (P := P) (ops := ops) (ops.toList.drop n) n listed a w (fun j => by simp [List.getElem?_drop]) (by rw [hl, he]; exact hseq) (hend _ _ _ hi hall)
    rwa [hl] at this
  | f + 1, listed, a, w, inv, hcnt, hi => by
    have hne : ¬ ∀ i, i < n → listed.getD i false = true := fun h => by
      have : cntH n listed = 0 := by
        unfold cntH
        rw [List.countP_eq_zero]
        intro i hi; simp [h i (List.mem_range.1 hi)]
      omega
    rw [show f + 1 + (ops.size - n) = (f + (ops.size - n)) + 1 by omega]
    refine ⟨fun hr => absurd (fun i hi' => ready_all htop inv.size hr (i + 1) i (by omega) (by omega)) hne, fun i hm => ?_⟩
    have hin : i < n := by
      rcases Nat.lt_or_ge i n with h | h
      · exact h
      · exfalso
        refine hne fun k hk => ?_
        cases hlk : listed.getD k false with
        | true => rfl
        | false => exact absurd hm (tail_waits hs hc hn inv _ k rfl hk (getD_in (by rw [inv.size]; omega) hlk) i h)
    have hu := (mem_ready.1 hm).1
    exact wpOp_mono (fun a' w' h' => wpAny_invtail htop hs hc hn hseq hend hstep f _ a' w' (inv.set hm hin) (by have := cntH_set hu hin; omega) h') (hstep _ _ _ i hi hm hin)
theorem wp_region_invtail {id : Nat} {Q : Exit → Act → World → Prop} {a : Act} {w : World} (n : Nat) (hm : P.follows .mixedOrders = true) (htop : topB ops = true) (hs : Region.sinkB .any ops n = true) (hc : Region.chainB .any ops n = true) (hn : n < ops.size)
    (hseq : Region.seqB .any ops (ops.size - n) n (List.replicate n true ++ List.replicate (ops.size - n) false).toArray = true)
    (Inv : Array Bool → Act → World → Prop) (h0 : Inv (Array.replicate ops.size false) a { w with drawn := w.drawn + 1 })
    (hend : ∀ listed a w, Inv listed a w → (∀ i, i < n → listed.getD i false = true) → wpList P ops Q (ops.toList.drop n) a w)
    (hstep : ∀ listed a w i, Inv listed a w → i ∈ Region.ready .any ops listed → i < n → wpOp P ops Q i (fun a' w' => Inv (listed.setIfInBounds i true) a' w') a w) : (Code.region id ops true).wp P Q a w := by
  have inv0 : HeadInv .any ops n (Array.replicate ops.size false) :=
    ⟨by simp, fun j oj _ hl => (by rw [getD_replicate_false] at hl; cases hl), fun t _ ht => getD_in (by simpa using ht) (getD_replicate_false _ _)⟩
  refine wp_region_any hm ?_
  have h := wpAny_invtail (P := P) (Q := Q) htop hs hc hn hseq hend hstep (cntH n (Array.replicate ops.size false)) _ a _ inv0 rfl h0
  have hc0 : cntH n (Array.replicate ops.size false) = n := by
    unfold cntH
    rw [show ((fun i => !(Array.replicate ops.size false).getD i false) : Nat → Bool) = fun _ => true from funext fun i => by rw [getD_replicate_false]; rfl]
    simp
  rw [hc0, show n + (ops.size - n) = ops.size by omega] at h
  exact h
end
/-- An append to an own row, as one operation. -/
theorem append_wp {P : Program} {o : Oper} {a : Act} {w : World} {K : Act → World → Prop} {Q : Exit → Act → World → Prop}
    (hg : o.guard = none) (s x : Operand) (t : TypeId) (hop : o.op = Op.call { callee := Callee.builtin Builtin.append, args := #[s, x], argTypes := #[t, t] })
    (e : TypeId) (i : TypeInfo) (z : Value) (size bytes : Nat) (h1 : P.underlying t = some (.slice e)) (h2 : P.info? e = some i) (h3 : i.zero = some z) (h4 : i.size = size) (h5 : i.bytes = bytes) (h6 : z.cells.size = size) (h7 : 0 < size)
    (base : Nat) (v : Value) (n : Nat) (olds : List Value) (hs : a.eval s = v) (hown : w.ownsRow base e size v n olds)
    (ad : Addr) (m c : Nat) (news : List Value) (hx : a.eval x = .slice (some ad) m c) (hn : news.length = m * size) (hc : ∀ j u, news[j]? = some u → w.cell? (ad.add j) = some u) (h1c : ∀ u ∈ news, u.oneCell' = true)
    (b1 : n + m ≤ maxLen) (b2 : (n + m) * bytes ≤ 140737488355328) (hb : base ≤ w.heap.size)
    (hK : ∀ v' w', w'.ownsRow base e size v' (n + m) (olds ++ news) → w.grownBy w' v.ownBlock → K (a.put o.dst v') w') : Oper.wp P o a w K Q := by
  have h := step_append_own (ops := #[]) (Q := Q) (E := True) hg s x t hop e i z size bytes h1 h2 h3 h4 h5 h6 h7 base v n olds hs hown ad m c news hx hn hc h1c b1 b2 hb hK
  have hw : Region.wanted o (yielded #[] a.tmps) = true := by simp [Region.wanted, hg]
  rwa [if_pos hw] at h
end Go.Proofs.YtebdboacmeafaaaGreat
