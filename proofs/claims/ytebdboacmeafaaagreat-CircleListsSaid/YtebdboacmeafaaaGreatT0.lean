/- A region that draws its order, in which one operation makes memory and all others of its head only compute or call quietly: one walk of the lexical order serves every order. No premise but the form of the region. -/
import Derived.StillTail
import Derived.Deep.Draws
import Derived.Deep.QuietTactic
import Derived.StillTactics
import Derived.OrdersIn
import Derived.TacticsIn
import Derived.ControlIn
set_option linter.unusedVariables false
set_option linter.unusedSimpArgs false
namespace Go.Proofs.YtebdboacmeafaaaGreat
open Go
@[go_sem] theorem alloc_drewN (w : World) (n : Nat) (o : Obj) : (w.drewN n).alloc o = (w.alloc o).drewN n := rfl
@[go_sem] theorem setCell_drewN (w : World) (n : Nat) (a : Addr) (v : Value) : (w.drewN n).setCell a v = (w.setCell a v).drewN n := rfl

section
variable {P : Program} {ops : Array Oper} {md : Region.Mode}

/-- An operation's result is the value v, in a world of the class C. -/
def TurnUpon (P : Program) (C : World → Prop) (v : Value) : Result Next → Prop
  | .ok (.value u) w' => C w' ∧ u = v
  | .ok .skip w' => C w' ∧ v = undef
  | .ok (.enter f args) w' => Calls P f args w' (fun e w'' => e = .returned v ∧ C w'')
  | _ => False

@[go_sem] theorem turnUpon_value (C : World → Prop) (v u : Value) (w : World) : TurnUpon P C v (.ok (.value u) w) = (C w ∧ u = v) := rfl
@[go_sem] theorem turnUpon_skip (C : World → Prop) (v : Value) (w : World) : TurnUpon P C v (.ok .skip w) = (C w ∧ v = undef) := rfl
@[go_sem] theorem turnUpon_enter (C : World → Prop) (v : Value) (f : FuncId) (args : Array Value) (w : World) : TurnUpon P C v (.ok (.enter f args) w) = Calls P f args w (fun e w'' => e = .returned v ∧ C w'') := rfl

theorem TurnUpon.wp {o : Oper} {a : Act} {C : World → Prop} {v : Value} {K' : Act → World → Prop} {Q' : Exit → Act → World → Prop} {w : World}
    (h : TurnUpon P C v ((execOp a.eval o).run P w)) (hK : ∀ w', C w' → K' (a.put o.dst v) w') : o.wp P a w K' Q' := by
  unfold Oper.wp
  generalize (execOp a.eval o).run P w = r at *
  cases r with
  | ok n w' =>
    cases n <;> simp only [TurnUpon] at h <;> simp only [Oper.upon]
    case value u => rw [h.2]; exact hK _ h.1
    case skip => rw [← h.2]; exact hK _ h.1
    case enter f args => exact h.mono fun e w'' ⟨he, hw⟩ => by subst he; exact hK _ hw
  | halt x w' => simp only [TurnUpon] at h

variable (P ops md) in
/-- In the frame a the operation number i yields v, whatever of the region's head has run, and its class of worlds goes on. -/
def TurnAt (n : Nat) (C : Array Bool → World → Prop) (i : Nat) (o : Oper) (v : Value) (a : Act) : Prop :=
  (Region.wanted o (yielded ops a.tmps) = true ∧ ∀ listed w, HeadInv md ops n listed → i ∈ Region.ready md ops listed → C listed w →
    TurnUpon P (C (listed.setIfInBounds i true)) v ((execOp a.eval o).run P w)) ∨
  (Region.wanted o (yielded ops a.tmps) = false ∧ v = undef ∧ ∀ listed w, HeadInv md ops n listed → i ∈ Region.ready md ops listed → C listed w → C (listed.setIfInBounds i true) w)

theorem TurnAt.of_same {n i : Nat} {C : Array Bool → World → Prop} {o : Oper} {v : Value} {a a' : Act} (hy : TurnAt P ops md n C i o v a) (he : execOp a'.eval o = execOp a.eval o)
    (hw : Region.wanted o (yielded ops a'.tmps) = Region.wanted o (yielded ops a.tmps)) : TurnAt P ops md n C i o v a' := by
  unfold TurnAt at *; rw [he, hw]; exact hy

variable (P ops md) in
def turnOp (n : Nat) (C : Array Bool → World → Prop) (i : Nat) (K : Act → Prop) (a : Act) : Prop :=
  ∃ o v, ops[i]? = some o ∧ TurnAt P ops md n C i o v a ∧ K (a.put o.dst v)

theorem turnOp_mono {n i : Nat} {C : Array Bool → World → Prop} {K K' : Act → Prop} {a : Act} (h : ∀ a, K a → K' a) : turnOp P ops md n C i K a → turnOp P ops md n C i K' a
  | ⟨o, v, h1, h2, h3⟩ => ⟨o, v, h1, h2, h _ h3⟩

variable (P ops md) in
def wpTurn (n : Nat) (C : Array Bool → World → Prop) (Q : Act → Prop) : List Oper → Nat → Act → Prop
  | [], _, a => Q a
  | o :: rest, k, a => ∃ v, TurnAt P ops md n C k o v a ∧ wpTurn n C Q rest (k + 1) (a.put o.dst v)

variable (P ops md) in
def wpAnyT (n : Nat) (C : Array Bool → World → Prop) (L : Array Bool → Act → Prop) : Nat → Array Bool → Act → Prop
  | 0, listed, a => L listed a
  | f + 1, listed, a => Region.ready md ops listed ≠ [] ∧ ∀ i ∈ Region.ready md ops listed, i < n ∧ turnOp P ops md n C i (wpAnyT n C L f (listed.setIfInBounds i true)) a

theorem wpAny_of_turn {n g : Nat} {C : Array Bool → World → Prop} {L : Array Bool → Act → Prop} {Q' : Exit → Act → World → Prop}
    (hL : ∀ listed a w, HeadInv md ops n listed → C listed w → L listed a → wpAny P md ops Q' g listed a w) :
    ∀ (f : Nat) (listed : Array Bool) (a : Act) (w : World), HeadInv md ops n listed → C listed w → wpAnyT P ops md n C L f listed a → wpAny P md ops Q' (f + g) listed a w
  | 0, listed, a, w, inv, hw, h => by rw [Nat.zero_add]; exact hL _ _ _ inv hw h
  | f + 1, listed, a, w, inv, hw, h => by
    rw [show f + 1 + g = (f + g) + 1 by omega]
    refine ⟨fun h0 => absurd h0 h.1, fun i hi => ?_⟩
    obtain ⟨hin, o, v, ho, hT, hK⟩ := h.2 i hi
    unfold wpOp
    simp only [ho]
    rcases hT with ⟨hwt, hT⟩ | ⟨hwt, rfl, hT⟩
    · simp only [hwt, if_true]
      exact .inl ((hT listed w inv hi hw).wp fun w' hw' => wpAny_of_turn hL f _ _ _ (inv.set hi hin) hw' hK)
    · simp only [hwt, Bool.false_eq_true, if_false]
      exact wpAny_of_turn hL f _ _ _ (inv.set hi hin) (hT listed w inv hi hw) hK

theorem turnOp_put {n i j : Nat} {C : Array Bool → World → Prop} {oi oj : Oper} {v : Value} (hj : ops[j]? = some oj) (hap : oi.apart ops oj = true)
    (hsi : ∀ cs b, oi.op ≠ .select cs b) (hsj : ∀ cs b, oj.op ≠ .select cs b) {K : Act → Prop} {a : Act}
    (hy : TurnAt P ops md n C i oi v a) (h : turnOp P ops md n C j K (a.put oi.dst v)) :
    turnOp P ops md n C j (fun a' => TurnAt P ops md n C i oi v a' ∧ K (a'.put oi.dst v)) a := by
  obtain ⟨h1, h2, h3⟩ := Oper.apart_spec hap
  obtain ⟨o, u, ho, hT, hK⟩ := h
  have : o = oj := Option.some.inj (ho.symm.trans hj)
  subst this
  refine ⟨o, u, ho, hT.of_same (execOp_put o hsj a oi.dst v h1).symm (wanted_put o a oi.dst v h1).symm, ?_, ?_⟩
  · exact hy.of_same (execOp_put oi hsi a o.dst u h3) (wanted_put oi a o.dst u h3)
  · rw [← Act.put_comm a v u h2]; exact hK

theorem wpAnyT_first {n i : Nat} {C : Array Bool → World → Prop} {oi : Oper} {v : Value} {L : Array Bool → Act → Prop} (hi : ops[i]? = some oi) (hsel : ∀ (j : Nat) (o : Oper) cs b, ops[j]? = some o → o.op ≠ .select cs b)
    (hs : Region.sinkB md ops n = true) (hc : Region.chainB md ops n = true) (hn : n < ops.size) (hin : i < n)
    (hdone : ∀ listed a, L listed a → ∀ j ∈ Region.ready md ops listed, n ≤ j) :
    ∀ (f : Nat) (listed : Array Bool) (a : Act), HeadInv md ops n listed →
      (∀ j oj, ops[j]? = some oj → j ≠ i → listed.getD j true = false → (∀ e ∈ oj.after, Region.binds md e = true → e.on ≠ i) → oi.apart ops oj = true) →
      i ∈ Region.ready md ops listed → TurnAt P ops md n C i oi v a →
      wpAnyT P ops md n C L f (listed.setIfInBounds i true) (a.put oi.dst v) → wpAnyT P ops md n C L (f + 1) listed a := by
  intro f
  induction f with
  | zero =>
    intro listed a inv _ hr hy H
    have hun := (mem_ready.1 hr).1
    refine ⟨fun h => (by rw [h] at hr; cases hr), fun j hj => ?_⟩
    have hjn : j < n := Nat.lt_of_not_le fun h => absurd hj (tail_waits hs hc hn inv _ i rfl hin hun j h)
    refine ⟨hjn, ?_⟩
    by_cases hji : j = i
    · subst hji; exact ⟨oi, v, hi, hy, H⟩
    · have := hdone _ _ H j (ready_mono hj hji); omega
  | succ f ih =>
    intro listed a inv hfree hr hy H
    have hun := (mem_ready.1 hr).1
    refine ⟨fun h => (by rw [h] at hr; cases hr), fun j hj => ?_⟩
    have hjn : j < n := Nat.lt_of_not_le fun h => absurd hj (tail_waits hs hc hn inv _ i rfl hin hun j h)
    refine ⟨hjn, ?_⟩
    by_cases hji : j = i
    · subst hji; exact ⟨oi, v, hi, hy, H⟩
    · have h1 := (H.2 j (ready_mono hj hji)).2
      obtain ⟨hjun, oj, hoj, hall⟩ := mem_ready.1 hj
      have hnot : ∀ e ∈ oj.after, Region.binds md e = true → e.on ≠ i := fun e he hb heq => by
        have h1 := hall e he hb
        rw [heq, getD_both hun] at h1
        cases h1
      have h2 := turnOp_put hoj (hfree j oj hoj hji hjun hnot) (fun cs b => hsel i oi cs b hi) (fun cs b => hsel j oj cs b hoj) hy h1
      refine turnOp_mono (fun a' h3 => ih (listed.setIfInBounds j true) a' (inv.set hj hjn) (fun k ok hk hki hun' hno => hfree k ok hk hki ?_ hno) (ready_mono hr (Ne.symm hji)) h3.1 ?_) h2
      · by_cases hjk : j = k
        · subst hjk; exact hjun
        · rw [getD_set_ne true hjk] at hun'; exact hun'
      · rw [Array.setIfInBounds_comm _ _ hji]; exact h3.2

theorem wpAnyT_lex {n g : Nat} {C : Array Bool → World → Prop} {Lq : Act → Prop} (hsel : Region.noSelect ops = true) (hs : Region.sinkB md ops n = true) (hc : Region.chainB md ops n = true) (hn : n < ops.size) :
    ∀ (l : List Oper) (k : Nat) (listed : Array Bool) (a : Act), (∀ j, j < l.length → l[j]? = ops[k + j]?) → k + l.length = n → HeadInv md ops n listed →
    Region.lexHead md ops g l.length k listed = true → wpTurn P ops md n C Lq l k a →
    wpAnyT P ops md n C (fun listed' a' => Region.seqB md ops g n listed' = true ∧ Lq a') l.length listed a
  | [], k, listed, a, _, hk, _, hB, h => by
    have : k = n := by simpa using hk
    subst this
    exact ⟨by simpa [Region.lexHead] using hB, h⟩
  | o :: l, k, listed, a, hl, hk, inv, hB, h => by
    have h0 : ops[k]? = some o := by simpa using (hl 0 (by simp)).symm
    simp only [List.length_cons, Region.lexHead, Bool.and_eq_true] at hB
    obtain ⟨⟨hr, hf⟩, hB'⟩ := hB
    have hkn : k < n := by simp only [List.length_cons] at hk; omega
    have hr' : k ∈ Region.ready md ops listed := by simpa using hr
    obtain ⟨v, hy, hK⟩ := h
    exact wpAnyT_first h0 (Region.noSelect_spec hsel) hs hc hn hkn (fun listed' a' hL => seqB_ready hL.1) l.length listed a inv (Region.free_spec h0 hf) hr' hy
      (wpAnyT_lex hsel hs hc hn l (k + 1) _ _ (fun j hj => by have := hl (j + 1) (by simp; omega); simpa [Nat.add_assoc, Nat.add_comm 1 j] using this) (by simp only [List.length_cons] at hk; omega) (inv.set hr' hkn) hB' hK)

/-- The head by the lexical walk, the tail in its own order. -/
theorem wp_region_turn {id : Nat} {Q : Exit → Act → World → Prop} {a : Act} {w : World} {l : List Oper} (n : Nat) (C : Array Bool → World → Prop) (hm : P.follows .mixedOrders = true) (hB : Region.lexTailB .any l.toArray n = true)
    (hC : C (Array.replicate l.toArray.size false) { w with drawn := w.drawn + 1 })
    (h : wpTurn P l.toArray .any n C (fun a' => ∀ listed w', (∀ i, i < n → listed.getD i false = true) → C listed w' → wpList P l.toArray Q (l.drop n) a' w') (l.take n) 0 a) : (Code.region id l.toArray true).wp P Q a w := by
  simp only [Region.lexTailB, Bool.and_eq_true, decide_eq_true_eq] at hB
  obtain ⟨⟨⟨⟨hsel, hn⟩, hs⟩, hc⟩, hlex⟩ := hB
  have hn' : n < l.length := by simpa using hn
  have htl : (l.take n).length = n := by simp; omega
  have hdl : (l.drop n).length = l.toArray.size - n := by simp
  have inv0 : HeadInv .any l.toArray n (Array.replicate l.toArray.size false) :=
    ⟨by simp, fun j oj _ hl => (by rw [getD_replicate_false] at hl; cases hl), fun t _ ht => getD_in (by simpa using ht) (getD_replicate_false _ _)⟩
  have H := wpAnyT_lex (md := .any) (g := l.toArray.size - n) hsel hs hc hn (l.take n) 0 _ a (fun j hj => by
    have hj' : j < n := by rw [htl] at hj; exact hj
    simp [hj']) (by simpa using htl) inv0 (by rw [htl]; exact hlex) h
  refine wp_region_any hm ?_
  have := wpAny_of_turn (Q' := Q) (g := l.toArray.size - n) (fun listed a' w' inv hw hL => by
    have hrdy : n ∈ Region.ready .any l.toArray listed := by
      have hg : l.toArray.size - n = (l.toArray.size - n - 1) + 1 := by omega
      have h1 := hL.1
      rw [hg] at h1
      simp only [Region.seqB, Bool.and_eq_true, decide_eq_true_eq] at h1
      rw [h1.1]; simp
    have hall : ∀ i, i < n → listed.getD i false = true := fun i hi => by
      cases hli : listed.getD i false with
      | true => rfl
      | false => exact absurd hrdy (tail_waits hs hc hn inv _ i rfl hi (getD_in (by rw [inv.size]; omega) hli) n (Nat.le_refl _))
    have := wpAny_of_seq (md := .any) (Q' := Q) (l.drop n) n listed a' w' (fun j => by simp [List.getElem?_drop]) (by rw [hdl]; exact hL.1) (hL.2 listed w' hall hw)
    rwa [hdl] at this) _ _ _ w.drew inv0 hC H
  rw [htl, show n + (l.toArray.size - n) = l.toArray.size by omega] at this
  exact this

/-! ### One operation turns the world W0 into W1; all others leave it alone, but for draws -/
def DrawsOf (W : World) (w : World) : Prop := ∃ m, w = W.drewN m

def wpOne (P : Program) (ops : Array Oper) (W0 W1 : World) (j : Nat) (Q : Act → Prop) : List Oper → Nat → Act → Prop
  | [], _, a => Q a
  | o :: rest, k, a =>
    if Region.wanted o (yielded ops a.tmps) then
      ∃ v, (if k = j then ∀ m, TurnUpon P (DrawsOf W1) v ((execOp a.eval o).run P (W0.drewN m))
        else ∀ W, (W = W0 ∨ W = W1) → ∀ m, TurnUpon P (DrawsOf W) v ((execOp a.eval o).run P (W.drewN m))) ∧ wpOne P ops W0 W1 j Q rest (k + 1) (a.put o.dst v)
    else k ≠ j ∧ wpOne P ops W0 W1 j Q rest (k + 1) (a.put o.dst undef)

def OneC (W0 W1 : World) (j : Nat) (listed : Array Bool) (w : World) : Prop := DrawsOf (if listed.getD j false then W1 else W0) w

theorem TurnUpon.mono {C C' : World → Prop} {v : Value} (h : ∀ w, C w → C' w) : ∀ {r : Result Next}, TurnUpon P C v r → TurnUpon P C' v r
  | .ok (.value _) _, hh => ⟨h _ hh.1, hh.2⟩
  | .ok .skip _, hh => ⟨h _ hh.1, hh.2⟩
  | .ok (.enter _ _) _, hh => Calls.mono hh fun _ _ hx => ⟨hx.1, h _ hx.2⟩

theorem wpTurn_of_one {n j : Nat} {W0 W1 : World} {Q : Act → Prop} : ∀ (l : List Oper) (k : Nat) (a : Act), wpOne P ops W0 W1 j Q l k a → k + l.length ≤ ops.size → wpTurn P ops md n (OneC W0 W1 j) Q l k a
  | [], _, _, h, _ => h
  | o :: rest, k, a, h, hsz => by
    simp only [List.length_cons] at hsz
    simp only [wpOne] at h
    have hset : ∀ {listed : Array Bool}, HeadInv md ops n listed → k = j → (listed.setIfInBounds k true).getD j false = true := fun inv e => by
      subst e
      have : k < (Array.size ‹Array Bool›) := by rw [inv.size]; omega
      simp [this]
    by_cases hw : Region.wanted o (yielded ops a.tmps) = true
    · rw [if_pos hw] at h
      obtain ⟨v, h1, h2⟩ := h
      refine ⟨v, .inl ⟨hw, fun listed w inv hr hC => ?_⟩, wpTurn_of_one rest (k + 1) _ h2 (by omega)⟩
      by_cases hkj : k = j
      · rw [if_pos hkj] at h1
        have hun : listed.getD j false = false := by rw [← hkj]; exact getD_both (mem_ready.1 hr).1
        obtain ⟨m, rfl⟩ : DrawsOf W0 w := by simpa [OneC, hun] using hC
        refine (h1 m).mono fun w' hw' => ?_
        unfold OneC
        rw [hset inv hkj]; exact hw'
      · rw [if_neg hkj] at h1
        obtain ⟨m, rfl⟩ := hC
        refine (h1 _ (by split <;> simp) m).mono fun w' hw' => ?_
        unfold OneC
        rw [getD_set_ne false hkj]; exact hw'
    · rw [if_neg hw] at h
      refine ⟨undef, .inr ⟨by simpa using hw, rfl, fun listed w inv hr hC => ?_⟩, wpTurn_of_one rest (k + 1) _ h.2 (by omega)⟩
      unfold OneC
      rw [getD_set_ne false h.1]; exact hC

/-- The operation number j of the head turns W0 into W1. -/
theorem wp_region_one {id : Nat} {Q : Exit → Act → World → Prop} {a : Act} {w : World} {l : List Oper} (n j : Nat) (W1 : World) (hm : P.follows .mixedOrders = true) (hB : Region.lexTailB .any l.toArray n = true) (hj : j < n)
    (h : wpOne P l.toArray w W1 j (fun a' => ∀ m, wpList P l.toArray Q (l.drop n) a' (W1.drewN m)) (l.take n) 0 a) : (Code.region id l.toArray true).wp P Q a w := by
  refine wp_region_turn n (OneC w W1 j) hm hB ?_ ?_
  · unfold OneC
    rw [getD_replicate_false]
    exact ⟨1, rfl⟩
  · refine wpTurn_of_one _ _ _ ?_ (by simp; omega)
    have hQ : ∀ (l' : List Oper) (k : Nat) (a : Act), wpOne P l.toArray w W1 j (fun a' => ∀ m, wpList P l.toArray Q (l.drop n) a' (W1.drewN m)) l' k a →
        wpOne P l.toArray w W1 j (fun a' => ∀ listed w', (∀ i, i < n → listed.getD i false = true) → OneC w W1 j listed w' → wpList P l.toArray Q (l.drop n) a' w') l' k a := by
      intro l'
      induction l' with
      | nil =>
        intro k a h listed w' hall hC
        obtain ⟨m, rfl⟩ : DrawsOf W1 w' := by simpa [OneC, hall j hj] using hC
        exact h m
      | cons o rest ih =>
        intro k a h
        simp only [wpOne] at h ⊢
        split
        · rename_i hw
          rw [if_pos hw] at h
          obtain ⟨v, h1, h2⟩ := h
          exact ⟨v, h1, ih _ _ h2⟩
        · rename_i hw
          rw [if_neg hw] at h
          exact ⟨h.1, ih _ _ h.2⟩
    exact hQ _ _ _ h

/-- One step of the walk. -/
theorem wpOne_step {W0 W1 : World} {j : Nat} {Q : Act → Prop} {o : Oper} {rest : List Oper} {k : Nat} {a : Act} {v : Value} (hw : Region.wanted o (yielded ops a.tmps) = true)
    (h : k ≠ j) (h1 : ∀ W, (W = W0 ∨ W = W1) → ∀ m, TurnUpon P (DrawsOf W) v ((execOp a.eval o).run P (W.drewN m))) (h2 : wpOne P ops W0 W1 j Q rest (k + 1) (a.put o.dst v)) : wpOne P ops W0 W1 j Q (o :: rest) k a := by
  simp only [wpOne]; rw [if_pos hw]; exact ⟨v, by rw [if_neg h]; exact h1, h2⟩
theorem wpOne_turn {W0 W1 : World} {j : Nat} {Q : Act → Prop} {o : Oper} {rest : List Oper} {a : Act} {v : Value} (hw : Region.wanted o (yielded ops a.tmps) = true)
    (h1 : ∀ m, TurnUpon P (DrawsOf W1) v ((execOp a.eval o).run P (W0.drewN m))) (h2 : wpOne P ops W0 W1 j Q rest (j + 1) (a.put o.dst v)) : wpOne P ops W0 W1 j Q (o :: rest) j a := by
  simp only [wpOne]; rw [if_pos hw]; exact ⟨v, by rw [if_pos True.intro]; exact h1, h2⟩
theorem wpOne_skip {W0 W1 : World} {j : Nat} {Q : Act → Prop} {o : Oper} {rest : List Oper} {k : Nat} {a : Act} (hw : Region.wanted o (yielded ops a.tmps) = false)
    (h : k ≠ j) (h2 : wpOne P ops W0 W1 j Q rest (k + 1) (a.put o.dst undef)) : wpOne P ops W0 W1 j Q (o :: rest) k a := by
  simp only [wpOne]; rw [if_neg (by simp [hw])]; exact ⟨h, h2⟩
end
end Go.Proofs.YtebdboacmeafaaaGreat

/-! A region that draws its order and ends in a chain of its own (a call, say), inside the widest fence: the head by one quiet walk, the tail in its own order. No premise but the form of the region. -/
namespace Go.Proofs.YtebdboacmeafaaaGreat
open Go

section
variable {n₀ : Nat} {P : Program} {ops : Array Oper} {md : Region.Mode} {w : World}

theorem wpInW_of_still {o : Oper} {a : Act} {K : Act → Prop} {K' : Act → World → Prop} {Q' : Exit → Act → World → Prop} (h : ∀ a, K a → K' a w) (hh : o.still P a w K) : o.wpIn Fence.wide n₀ P a w K' Q' := by
  unfold Oper.still at hh
  unfold Oper.wpIn
  refine ⟨fun _ _ => trivial, ?_⟩
  rw [show Fence.wide.round = none from rfl, Oper.semAt_none]
  generalize (execOp a.eval o).run P w = r at *
  cases r with
  | ok x w' =>
    cases x <;> simp only [Oper.stillUpon] at hh <;> simp only [Oper.uponIn]
    case enter f args =>
      obtain ⟨rfl, v, hc, hn⟩ := hh
      exact ⟨fun h => (by cases h), callsIn_wide.2 (hc.mono fun e w'' ⟨he, hw⟩ => by subst he; subst hw; exact h _ hn)⟩
    all_goals (obtain ⟨rfl, h2⟩ := hh; exact h _ h2)
  | halt x w' => simp only [Oper.stillUpon] at hh

theorem wpOpInW_of_stOp {i : Nat} {a : Act} {K : Act → Prop} {K' : Act → World → Prop} {Q' : Exit → Act → World → Prop} (h : ∀ a, K a → K' a w) (hh : stOp P ops w i K a) : wpOpIn Fence.wide n₀ P ops Q' i K' a w := by
  unfold stOp at hh
  unfold wpOpIn
  split
  · rename_i ho; simp only [ho] at hh; exact h _ hh
  · rename_i o ho
    simp only [ho] at hh
    split
    · rename_i hw; simp only [hw, if_true] at hh; exact wpInW_of_still h hh
    · rename_i hw; simp only [hw] at hh; exact ⟨fun _ _ => trivial, h _ hh⟩

theorem wpAnyInW_of_head {n g : Nat} {L : Array Bool → Act → Prop} {Q' : Exit → Act → World → Prop} (hL : ∀ listed a, L listed a → wpAnyIn Fence.wide n₀ P md ops Q' g listed a w) :
    ∀ (f : Nat) (listed : Array Bool) (a : Act), wpAnyL P md ops w n L f listed a → wpAnyIn Fence.wide n₀ P md ops Q' (f + g) listed a w
  | 0, listed, a, h => by rw [Nat.zero_add]; exact hL _ _ h
  | f + 1, listed, a, h => by
    rw [show f + 1 + g = (f + g) + 1 by omega]
    exact ⟨fun h0 => absurd h0 h.1, fun i hi => wpOpInW_of_stOp (fun a' h' => wpAnyInW_of_head hL f _ a' h') (h.2 i hi).2⟩

theorem wpAnyInW_of_seq {Q' : Exit → Act → World → Prop} : ∀ (l : List Oper) (k : Nat) (listed : Array Bool) (a : Act) (w : World), (∀ j, l[j]? = ops[k + j]?) →
    Region.seqB md ops l.length k listed = true → wpListIn Fence.wide n₀ P ops Q' l a w → wpAnyIn Fence.wide n₀ P md ops Q' l.length listed a w
  | [], _, _, _, _, _, hB, h => ⟨by simpa [Region.seqB] using hB, h⟩
  | o :: l, k, listed, a, w, hl, hB, h => by
    have h0 : ops[k]? = some o := by simpa using (hl 0).symm
    simp only [List.length_cons, Region.seqB, Bool.and_eq_true, decide_eq_true_eq] at hB
    refine ⟨fun h1 => (by rw [hB.1] at h1; cases h1), fun i hi => ?_⟩
    rw [hB.1] at hi
    have hik : i = k := by simpa using hi
    subst hik
    have hw : wpOpIn Fence.wide n₀ P ops Q' i (wpListIn Fence.wide n₀ P ops Q' l) a w := by unfold wpOpIn; simp only [h0]; exact h
    exact wpOpIn_mono (fun a' w' h' => wpAnyInW_of_seq l (i + 1) _ a' w' (fun j => by have := hl (j + 1); simpa [Nat.add_assoc, Nat.add_comm 1 j] using this) hB.2 h') hw

/-- The head by one quiet walk, the tail in its own order. -/
theorem wpInW_region_still_tail {id : Nat} {Q : Exit → Act → World → Prop} {a : Act} {l : List Oper} (n : Nat) (hm : P.follows .mixedOrders = true) (hB : Region.lexTailB .any l.toArray n = true)
    (h : wpStill P l.toArray (w.drewN 1) (fun a' => wpListIn Fence.wide n₀ P l.toArray Q (l.drop n) a' (w.drewN 1)) (l.take n) a) : (Code.region id l.toArray true).wpIn Fence.wide n₀ P Q a w := by
  simp only [Region.lexTailB, Bool.and_eq_true, decide_eq_true_eq] at hB
  obtain ⟨⟨⟨⟨hsel, hn⟩, hs⟩, hc⟩, hlex⟩ := hB
  have hn' : n < l.length := by simpa using hn
  have htl : (l.take n).length = n := by simp; omega
  have hdl : (l.drop n).length = l.toArray.size - n := by simp
  have inv0 : HeadInv .any l.toArray n (Array.replicate l.toArray.size false) :=
    ⟨by simp, fun j oj _ hl => (by rw [getD_replicate_false] at hl; cases hl), fun t _ ht => getD_in (by simpa using ht) (getD_replicate_false _ _)⟩
  have H := wpAnyL_lex (md := .any) (g := l.toArray.size - n) hsel hs hc hn (l.take n) 0 _ a (fun j hj => by
    have hj' : j < n := by rw [htl] at hj; exact hj
    simp [hj']) (by simpa using htl) inv0 (by rw [htl]; exact hlex) h
  refine wpIn_region_any hm ?_
  have := wpAnyInW_of_head (n₀ := n₀) (Q' := Q) (g := l.toArray.size - n) (fun listed a' hL => by
    have := wpAnyInW_of_seq (n₀ := n₀) (md := .any) (Q' := Q) (l.drop n) n listed a' (w.drewN 1) (fun j => by simp [List.getElem?_drop]) (by rw [hdl]; exact hL.1) hL.2
    rwa [hdl] at this) _ _ _ H
  rw [htl, show n + (l.toArray.size - n) = l.toArray.size by omega] at this
  exact this
/-- The same outside a fence, the world behind the draw spelled as the walk spells it. -/
theorem wp_still_tail1 {id : Nat} {Q : Exit → Act → World → Prop} {a : Act} {l : List Oper} (n : Nat) (hm : P.follows .mixedOrders = true) (hB : Region.lexTailB .any l.toArray n = true)
    (h : wpStill P l.toArray (w.drewN 1) (fun a' => wpList P l.toArray Q (l.drop n) a' (w.drewN 1)) (l.take n) a) : (Code.region id l.toArray true).wp P Q a w := wp_region_still_tail n hm hB h
end
end Go.Proofs.YtebdboacmeafaaaGreat
