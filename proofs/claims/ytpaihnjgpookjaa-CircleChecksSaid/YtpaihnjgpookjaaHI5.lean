/- A region that draws its order: the head by an invariant, the tail in its own order. -/
import Derived.Test.YtpaihnjgpookjaaHI0
import Derived.Test.YtpaihnjgpookjaaHJ0
set_option linter.unusedVariables false
set_option linter.unusedSimpArgs false
namespace Go.Proofs.Ytpaihnjgpookjaa
open Go Go.RowKit

section
variable {P : Program} {ops : Array Oper}
theorem wpAny_invtail {n : Nat} {Q : Exit → Act → World → Prop} {Inv : Array Bool → Act → World → Prop} (htop : topB ops = true) (hs : Region.sinkB .any ops n = true) (hc : Region.chainB .any ops n = true) (hn : n < ops.size)
    (hseq : Region.seqB .any ops (ops.size - n) n (List.replicate n true ++ List.replicate (ops.size - n) false).toArray = true)
    (hend : ∀ listed a w, Inv listed a w → (∀ i, i < n → listed.getD i false = true) → wpList P ops Q (ops.toList.drop n) a w)
    (hstep : ∀ listed a w i, Inv listed a w → i ∈ Region.ready .any ops listed → i < n → wpOp P ops Q i (fun a' w' => Inv (listed.setIfInBounds i true) a' w') a w) :
    ∀ (f : Nat) (listed : Array Bool) (a : Act) (w : World), HeadInv .any ops n listed → cntH n listed = f → Inv listed a w → wpAny P .any ops Q (f + (ops.size - n)) listed a w
  | 0, listed, a, w, inv, hcnt, hi => by
    have hall := cntH_zero hcnt
    have he := listed_eq inv hall (Nat.le_of_lt hn)
    rw [Nat.zero_add]
    have hl : (ops.toList.drop n).length = ops.size - n := by simp
    have := wpAny_of_seq (md := .any) (Q' := Q) (P := P) (ops := ops) (ops.toList.drop n) n listed a w (fun j => by simp [List.getElem?_drop]) (by rw [hl, he]; exact hseq) (hend _ _ _ hi hall)
    rwa [hl] at this
  | f + 1, listed, a, w, inv, hcnt, hi => by
    have hne : ¬ ∀ i, i < n → listed.getD i false = true := fun h => by
      have : cntH n listed = 0 := by
        unfold cntH
        rw [List.countP_eq_zero]
        intro i hi; simp [h i (List.mem_range.1 hi)]
      omega
    rw [show f + 1 + (ops.size - n) = (f + (ops.size - n)) + 1 by omega]
    refine ⟨fun hr => absurd (fun i hi' => ready_all htop inv.size hr (i + 1) i (by omega) (by omega)) hne, fun i hm => ?_⟩
    have hin : i < n := by
      rcases Nat.lt_or_ge i n with h | h
      · exact h
      · exfalso
        refine hne fun k hk => ?_
        cases hlk : listed.getD k false with
        | true => rfl
        | false => exact absurd hm (tail_waits hs hc hn inv _ k rfl hk (getD_in (by rw [inv.size]; omega) hlk) i h)
    have hu := (mem_ready.1 hm).1
    exact wpOp_mono (fun a' w' h' => wpAny_invtail htop hs hc hn hseq hend hstep f _ a' w' (inv.set hm hin) (by have := cntH_set hu hin; omega) h') (hstep _ _ _ i hi hm hin)
theorem wp_region_invtail {id : Nat} {Q : Exit → Act → World → Prop} {a : Act} {w : World} (n : Nat) (hm : P.follows .mixedOrders = true) (htop : topB ops = true) (hs : Region.sinkB .any ops n = true) (hc : Region.chainB .any ops n = true) (hn : n < ops.size)
    (hseq : Region.seqB .any ops (ops.size - n) n (List.replicate n true ++ List.replicate (ops.size - n) false).toArray = true)
    (Inv : Array Bool → Act → World → Prop) (h0 : Inv (Array.replicate ops.size false) a { w with drawn := w.drawn + 1 })
    (hend : ∀ listed a w, Inv listed a w → (∀ i, i < n → listed.getD i false = true) → wpList P ops Q (ops.toList.drop n) a w)
    (hstep : ∀ listed a w i, Inv listed a w → i ∈ Region.ready .any ops listed → i < n → wpOp P ops Q i (fun a' w' => Inv (listed.setIfInBounds i true) a' w') a w) : (Code.region id ops true).wp P Q a w := by
  have inv0 : HeadInv .any ops n (Array.replicate ops.size false) :=
    ⟨by simp, fun j oj _ hl => (by rw [getD_replicate_false] at hl; cases hl), fun t _ ht => getD_in (by simpa using ht) (getD_replicate_false _ _)⟩
  refine wp_region_any hm ?_
  have h := wpAny_invtail (P := P) (Q := Q) htop hs hc hn hseq hend hstep (cntH n (Array.replicate ops.size false)) _ a _ inv0 rfl h0
  have hc0 : cntH n (Array.replicate ops.size false) = n := by
    unfold cntH
    rw [show ((fun i => !(Array.replicate ops.size false).getD i false) : Nat → Bool) = fun _ => true from funext fun i => by rw [getD_replicate_false]; rfl]
    simp
  rw [hc0, show n + (ops.size - n) = ops.size by omega] at h
  exact h
end
/-- An append to an own row, as one operation. -/
theorem append_wp {P : Program} {o : Oper} {a : Act} {w : World} {K : Act → World → Prop} {Q : Exit → Act → World → Prop}
    (hg : o.guard = none) (s x : Operand) (t : TypeId) (hop : o.op = Op.call { callee := Callee.builtin Builtin.append, args := #[s, x], argTypes := #[t, t] })
    (e : TypeId) (i : TypeInfo) (z : Value) (size bytes : Nat) (h1 : P.underlying t = some (.slice e)) (h2 : P.info? e = some i) (h3 : i.zero = some z) (h4 : i.size = size) (h5 : i.bytes = bytes) (h6 : z.cells.size = size) (h7 : 0 < size)
    (base : Nat) (v : Value) (n : Nat) (olds : List Value) (hs : a.eval s = v) (hown : w.ownsRow base e size v n olds)
    (ad : Addr) (m c : Nat) (news : List Value) (hx : a.eval x = .slice (some ad) m c) (hn : news.length = m * size) (hc : ∀ j u, news[j]? = some u → w.cell? (ad.add j) = some u) (h1c : ∀ u ∈ news, u.oneCell' = true)
    (b1 : n + m ≤ maxLen) (b2 : (n + m) * bytes ≤ 140737488355328) (hb : base ≤ w.heap.size)
    (hK : ∀ v' w', w'.ownsRow base e size v' (n + m) (olds ++ news) → w.grownBy w' v.ownBlock → K (a.put o.dst v') w') : Oper.wp P o a w K Q := by
  have h := step_append_own (ops := #[]) (Q := Q) (E := True) hg s x t hop e i z size bytes h1 h2 h3 h4 h5 h6 h7 base v n olds hs hown ad m c news hx hn hc h1c b1 b2 hb hK
  have hw : Region.wanted o (yielded #[] a.tmps) = true := by simp [Region.wanted, hg]
  rwa [if_pos hw] at h
end Go.Proofs.Ytpaihnjgpookjaa
