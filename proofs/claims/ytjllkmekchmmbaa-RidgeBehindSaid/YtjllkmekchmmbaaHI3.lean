/- A region that draws its order: the head by an invariant, the tail in its own order, inside a fence. -/
import Derived.Test.YtjllkmekchmmbaaHI2
set_option linter.unusedVariables false
set_option linter.unusedSimpArgs false
namespace Go.Proofs.Ytjllkmekchmmbaa
open Go Go.RowKit

section
variable {F : Fence} {m : Nat} {P : Program} {ops : Array Oper}
def cntH (n : Nat) (l : Array Bool) : Nat := (List.range n).countP fun i => !l.getD i false
theorem cntH_zero {n : Nat} {l : Array Bool} (h : cntH n l = 0) : ∀ i, i < n → l.getD i false = true := fun i hi => by
  have := List.countP_eq_zero.1 h i (List.mem_range.2 hi)
  simpa using this
theorem countP_set {i : Nat} {l : Array Bool} (hi : l.getD i true = false) : ∀ (xs : List Nat), xs.Nodup → i ∈ xs → (xs.countP fun j => !(l.setIfInBounds i true).getD j false) + 1 = xs.countP fun j => !l.getD j false
  | [], _, h => by simp at h
  | x :: xs, hn, h => by
    have his : i < l.size := by
      rcases Nat.lt_or_ge i l.size with h' | h'
      · exact h'
      · simp [Array.getElem?_eq_none h'] at hi
    have h1 : (l.setIfInBounds i true).getD i false = true := by simp [his]
    have h2 : l.getD i false = false := by simp [his] at hi ⊢; exact hi
    rcases List.mem_cons.1 h with rfl | h
    · have hx : i ∉ xs := (List.nodup_cons.1 hn).1
      have hc : (xs.countP fun j => !(l.setIfInBounds i true).getD j false) = xs.countP fun j => !l.getD j false := by
        refine List.countP_congr fun j hj => ?_
        rw [getD_set_ne false (fun e => hx (by rw [e]; exact hj))]
      rw [List.countP_cons, List.countP_cons, hc, h1, h2]; simp
    · have hx : x ≠ i := fun e => (List.nodup_cons.1 hn).1 (e ▸ h)
      have ih := countP_set hi xs (List.nodup_cons.1 hn).2 h
      rw [List.countP_cons, List.countP_cons, getD_set_ne false (Ne.symm hx)]
      omega
theorem cntH_set {n i : Nat} {l : Array Bool} (hi : l.getD i true = false) (hin : i < n) : cntH n (l.setIfInBounds i true) + 1 = cntH n l :=
  countP_set hi _ List.nodup_range (List.mem_range.2 hin)
/-- All of the head is listed, and nothing of the tail. -/
theorem listed_eq {n : Nat} {listed : Array Bool} (inv : HeadInv .any ops n listed) (hall : ∀ i, i < n → listed.getD i false = true) (hn : n ≤ ops.size) : listed = (List.replicate n true ++ List.replicate (ops.size - n) false).toArray := by
  apply Array.ext
  · simp [inv.size]; omega
  · intro i h1 h2
    by_cases hi : i < n
    · have := hall i hi
      simp [h1] at this
      simp [this, List.getElem_append, hi]
    · have h3 : i < ops.size := by rw [inv.size] at h1; exact h1
      have := inv.tail i (by omega) h3
      simp [h1] at this
      simp [this, List.getElem_append, hi]
theorem wpAnyIn_invtail {n : Nat} {Q : Exit → Act → World → Prop} {Inv : Array Bool → Act → World → Prop} (htop : topB ops = true) (hs : Region.sinkB .any ops n = true) (hc : Region.chainB .any ops n = true) (hn : n < ops.size)
    (hseq : Region.seqB .any ops (ops.size - n) n (List.replicate n true ++ List.replicate (ops.size - n) false).toArray = true)
    (hend : ∀ listed a w, Inv listed a w → (∀ i, i < n → listed.getD i false = true) → wpListIn F m P ops Q (ops.toList.drop n) a w)
    (hstep : ∀ listed a w i, Inv listed a w → i ∈ Region.ready .any ops listed → i < n → wpOpIn F m P ops Q i (fun a' w' => Inv (listed.setIfInBounds i true) a' w') a w) :
    ∀ (f : Nat) (listed : Array Bool) (a : Act) (w : World), HeadInv .any ops n listed → cntH n listed = f → Inv listed a w → wpAnyIn F m P .any ops Q (f + (ops.size - n)) listed a w
  | 0, listed, a, w, inv, hcnt, hi => by
    have hall := cntH_zero hcnt
    have he := listed_eq inv hall (Nat.le_of_lt hn)
    rw [Nat.zero_add]
    have hl : (ops.toList.drop n).length = ops.size - n := by simp
    have := wpAnyInF_of_seq (F := F) (m := m) (md := .any) (Q' := Q) (P := P) (ops := ops) (ops.toList.drop n) n listed a w (fun j => by simp [List.getElem?_drop]) (by rw [hl, he]; exact hseq) (hend _ _ _ hi hall)
    rwa [hl] at this
  | f + 1, listed, a, w, inv, hcnt, hi => by
    have hne : ¬ ∀ i, i < n → listed.getD i false = true := fun h => by
      have : cntH n listed = 0 := by
        unfold cntH
        rw [List.countP_eq_zero]
        intro i hi; simp [h i (List.mem_range.1 hi)]
      omega
    rw [show f + 1 + (ops.size - n) = (f + (ops.size - n)) + 1 by omega]
    refine ⟨fun hr => absurd (fun i hi' => ready_all htop inv.size hr (i + 1) i (by omega) (by omega)) hne, fun i hm => ?_⟩
    have hin : i < n := by
      rcases Nat.lt_or_ge i n with h | h
      · exact h
      · exfalso
        refine hne fun k hk => ?_
        cases hlk : listed.getD k false with
        | true => rfl
        | false => exact absurd hm (tail_waits hs hc hn inv _ k rfl hk (getD_in (by rw [inv.size]; omega) hlk) i h)
    have hu := (mem_ready.1 hm).1
    exact wpOpIn_mono (fun a' w' h' => wpAnyIn_invtail htop hs hc hn hseq hend hstep f _ a' w' (inv.set hm hin) (by have := cntH_set hu hin; omega) h') (hstep _ _ _ i hi hm hin)
theorem wpIn_region_invtail {id : Nat} {Q : Exit → Act → World → Prop} {a : Act} {w : World} (n : Nat) (hm : P.follows .mixedOrders = true) (htop : topB ops = true) (hs : Region.sinkB .any ops n = true) (hc : Region.chainB .any ops n = true) (hn : n < ops.size)
    (hseq : Region.seqB .any ops (ops.size - n) n (List.replicate n true ++ List.replicate (ops.size - n) false).toArray = true)
    (Inv : Array Bool → Act → World → Prop) (h0 : Inv (Array.replicate ops.size false) a { w with drawn := w.drawn + 1 })
    (hend : ∀ listed a w, Inv listed a w → (∀ i, i < n → listed.getD i false = true) → wpListIn F m P ops Q (ops.toList.drop n) a w)
    (hstep : ∀ listed a w i, Inv listed a w → i ∈ Region.ready .any ops listed → i < n → wpOpIn F m P ops Q i (fun a' w' => Inv (listed.setIfInBounds i true) a' w') a w) : (Code.region id ops true).wpIn F m P Q a w := by
  have inv0 : HeadInv .any ops n (Array.replicate ops.size false) :=
    ⟨by simp, fun j oj _ hl => (by rw [getD_replicate_false] at hl; cases hl), fun t _ ht => getD_in (by simpa using ht) (getD_replicate_false _ _)⟩
  refine wpIn_region_any hm ?_
  have h := wpAnyIn_invtail (F := F) (m := m) (P := P) (Q := Q) htop hs hc hn hseq hend hstep (cntH n (Array.replicate ops.size false)) _ a _ inv0 rfl h0
  have hc0 : cntH n (Array.replicate ops.size false) = n := by
    unfold cntH
    rw [show ((fun i => !(Array.replicate ops.size false).getD i false) : Nat → Bool) = fun _ => true from funext fun i => by rw [getD_replicate_false]; rfl]
    simp
  rw [hc0, show n + (ops.size - n) = ops.size by omega] at h
  exact h
end
end Go.Proofs.Ytjllkmekchmmbaa
