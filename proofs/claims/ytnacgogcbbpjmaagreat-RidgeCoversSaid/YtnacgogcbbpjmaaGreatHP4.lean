/- Index of numbers; Best of package ridge. -/
import Derived.Test.YtnacgogcbbpjmaaGreatHP2
import Derived.Test.YtnacgogcbbpjmaaGreatHB3
import Derived.Test.YtnacgogcbbpjmaaGreatHD3
set_option linter.unusedVariables false
set_option linter.unusedSimpArgs false
namespace Go.Proofs.YtnacgogcbbpjmaaGreat
open Go Go.RowKit

/-- The first index of a number, counted from k. -/
def fxF (x : Int) : List Int → Nat → Int
  | [], _ => -1
  | a :: l, k => if a = x then k else fxF x l (k + 1)
/-- The first places that no tower sees, by the towers alone. -/
def nsL (g : List Int) (wd : Int) (T : List Tw) (rise far : Int) : Nat → List Pl
  | 0 => []
  | k + 1 => if (T.any fun t => seB g wd t (plI wd k) rise far) = true then nsL g wd T rise far k else nsL g wd T rise far k ++ [plI wd k]
theorem wmN_zero {g : List Int} {wd : Int} {L T : List Tw} {rise far : Int} {i : Nat} (h : Ord L T) : wmN g wd L rise far i = 0 ↔ ¬ (T.any fun t => seB g wd t (plI wd i) rise far) = true := by
  unfold wmN
  rw [mTo_zero]
  simp only [List.any_eq_true, not_exists, not_and, Bool.not_eq_true]
  constructor
  · intro h1 t ht
    have ht2 := h.1.mem_iff.2 ht
    obtain ⟨j, hj, rfl⟩ := List.getElem_of_mem ht2
    have := h1 j hj
    unfold seI at this
    rwa [getD_tw hj] at this
  · intro h1 j hj
    unfold seI
    rw [getD_tw hj]
    exact h1 _ (h.1.mem_iff.1 (List.getElem_mem _))
theorem dkL_eq {g : List Int} {wd : Int} {L T : List Tw} {rise far : Int} (h : Ord L T) : ∀ k, dkL g wd L rise far k = nsL g wd T rise far k
  | 0 => rfl
  | k + 1 => by
    rw [dkL, nsL, dkL_eq h k]
    by_cases hz : wmN g wd L rise far k = 0
    · rw [if_pos hz, if_neg ((wmN_zero h).1 hz)]
    · rw [if_neg hz, if_pos (by by_cases q : (T.any fun t => seB g wd t (plI wd k) rise far) = true; exact q; exact absurd ((wmN_zero h).2 q) hz)]
theorem nsL_len (g : List Int) (wd : Int) (T : List Tw) (rise far : Int) : ∀ k, (nsL g wd T rise far k).length ≤ k
  | 0 => by simp [nsL]
  | k + 1 => by
    have := nsL_len g wd T rise far k
    rw [nsL]; split
    · omega
    · simp; omega
theorem nsL_on {wd hg : Int} {g : List Int} {T : List Tw} {rise far : Int} (hm : vmB wd hg g = true) : ∀ k, k ≤ g.length → ∀ p ∈ nsL g wd T rise far k, onB wd hg p = true
  | 0, _, p, hp => by simp [nsL] at hp
  | k + 1, hk, p, hp => by
    rw [nsL] at hp
    split at hp
    · exact nsL_on hm k (by omega) p hp
    · rcases List.mem_append.1 hp with hp | hp
      · exact nsL_on hm k (by omega) p hp
      · rw [List.mem_singleton.1 hp]; exact plI_on hm (by omega)

end Go.Proofs.YtnacgogcbbpjmaaGreat

/-! Best of package ridge. -/
set_option linter.unusedVariables false
set_option linter.unusedSimpArgs false
namespace Go.Proofs.YtnacgogcbbpjmaaGreat
open Go Go.RowKit

/-- Of some places those that a tower sees, counted. -/
def gnC (g : List Int) (wd : Int) (t : Tw) (rise far : Int) (l : List Pl) : Nat := l.countP fun q => seB g wd t q rise far
/-- What a tower at each of the first places gains. -/
def gnL (g : List Int) (wd : Int) (height rise far : Int) (dark : List Pl) (k : Nat) : List Int := (List.range k).map fun i => (gnC g wd ⟨0, (plI wd i).1, (plI wd i).2, height⟩ rise far dark : Int)
theorem gnL_succ (g : List Int) (wd height rise far : Int) (dark : List Pl) (k : Nat) : gnL g wd height rise far dark (k + 1) = gnL g wd height rise far dark k ++ [(gnC g wd ⟨0, (plI wd k).1, (plI wd k).2, height⟩ rise far dark : Int)] := by
  unfold gnL; rw [List.range_succ, List.map_append]; rfl
theorem gnL_len (g : List Int) (wd height rise far : Int) (dark : List Pl) (k : Nat) : (gnL g wd height rise far dark k).length = k := by unfold gnL; simp
theorem gnC_succ (g : List Int) (wd : Int) (t : Tw) (rise far : Int) {D : List Pl} {j : Nat} (h : j < D.length) : gnC g wd t rise far (D.take (j + 1)) = gnC g wd t rise far (D.take j) + (if seB g wd t (D.getD j (0, 0)) rise far = true then 1 else 0) := by
  unfold gnC
  rw [List.take_succ_eq_append_getElem h, List.countP_append, List.getD_eq_getElem?_getD, List.getElem?_eq_getElem h, List.countP_singleton]; rfl
theorem gnC_le (g : List Int) (wd : Int) (t : Tw) (rise far : Int) (D : List Pl) : gnC g wd t rise far D ≤ D.length := List.countP_le_length
def beE (wd hg : Int) (g : List Int) (T : List Tw) (H : List Hz) (height rise tick : Int) : Int :=
  if cvE wd hg g T H rise tick = 0 then (if wiB height 0 200 = true then (if g.length ≤ 200 then 0 else 2) else 1) else cvE wd hg g T H rise tick
/-- What Best returns of a country without a fault: the greatest gain, and its first index. -/
def beN (g : List Int) (wd : Int) (T : List Tw) (height rise far : Int) : Int := (gnL g wd height rise far (nsL g wd T rise far g.length) g.length).foldl max 0
def beK (g : List Int) (wd : Int) (T : List Tw) (height rise far : Int) : Int := fxF (beN g wd T height rise far) (gnL g wd height rise far (nsL g wd T rise far g.length) g.length) 0
theorem fxF_in {x : Int} : ∀ {l : List Int} {k : Nat}, x ∈ l → ∃ i, i < l.length ∧ fxF x l k = ((k + i : Nat) : Int) ∧ l.getD i 0 = x
  | [], k, h => by simp at h
  | a :: l, k, h => by
    rw [fxF]
    by_cases e : a = x
    · rw [if_pos e]; exact ⟨0, by simp, by simp, by simpa using e⟩
    · rw [if_neg e]
      obtain ⟨i, h1, h2, h3⟩ := fxF_in (k := k + 1) ((List.mem_cons.1 h).resolve_left (fun q => e q.symm))
      exact ⟨i + 1, by simpa using h1, by rw [h2]; congr 1; omega, by simpa using h3⟩
theorem foldl_max_mem : ∀ (l : List Int) (a : Int), l.foldl max a = a ∨ l.foldl max a ∈ l
  | [], a => .inl rfl
  | b :: l, a => by
    rw [List.foldl_cons]
    rcases foldl_max_mem l (max a b) with h | h
    · rw [h]
      by_cases q : a ≤ b
      · right; rw [Int.max_eq_right q]; simp
      · left; exact Int.max_eq_left (by omega)
    · exact .inr (List.mem_cons_of_mem _ h)
theorem fold_mem : ∀ (l : List Int) (x : Int), (∀ y ∈ l, x ≤ y) → l ≠ [] → l.foldl max x ∈ l
  | [], _, _, h => absurd rfl h
  | a :: l, x, h, _ => by
    have hx : max x a = a := Int.max_eq_right (h a (by simp))
    rw [List.foldl_cons, hx]
    rcases foldl_max_mem l a with h1 | h1
    · rw [h1]; simp
    · exact List.mem_cons_of_mem _ h1
/-- The worlds of Best's last region. -/
def BsC (w : World) (n0 : Nat) (wd hg : Int) (o tv hv v : Value) (n : Nat) (G : List Int) (px py : Int) (listed : Array Bool) (w' : World) : Prop :=
  Below w.heap.size w w' ∧ w'.heap[w.heap.size]? = some (.cells #[.int .i64 wd, .int .i64 hg, o, tv, hv] 28 (0, 0)) ∧ w.heap.size + 1 < n0 ∧ w'.ownsRow n0 3 1 v n (G.map (Value.int .i64 ·)) ∧ ∃ a b : Int, w'.heap[w.heap.size + 1]? = some (.cells #[.int .i64 a, .int .i64 b] 30 (0, 0)) ∧ (listed.getD 7 false = true → a = px ∧ b = py)
theorem BsC.keep {w : World} {n0 : Nat} {wd hg : Int} {o tv hv v : Value} {n : Nat} {G : List Int} {px py : Int} {listed : Array Bool} {w' w'' : World} (h : BsC w n0 wd hg o tv hv v n G px py listed w') (hb : Below w'.heap.size w' w'') : BsC w n0 wd hg o tv hv v n G px py listed w'' := by
  obtain ⟨h1, h2, h5, h6, a, b, h7, h8⟩ := h
  have hs := (Array.getElem?_eq_some_iff.1 h7).1
  exact ⟨h1.trans (hb.mono h1.size), (hb.block _ (by omega)).trans h2, h5, own_below h6 hb, a, b, (hb.block _ hs).trans h7, h8⟩
theorem BsC.go {w : World} {n0 : Nat} {wd hg : Int} {o tv hv v : Value} {n : Nat} {G : List Int} {px py : Int} {listed : Array Bool} {w' : World} {k : Nat} (h : BsC w n0 wd hg o tv hv v n G px py listed w') (hk : k ≠ 7) : BsC w n0 wd hg o tv hv v n G px py (listed.setIfInBounds k true) w' := by
  obtain ⟨h1, h2, h5, h6, a, b, h7, h8⟩ := h
  exact ⟨h1, h2, h5, h6, a, b, h7, fun q => h8 (by rwa [getD_set_ne _ hk] at q)⟩
theorem BsC.store {w : World} {n0 : Nat} {wd hg : Int} {o tv hv v : Value} {n : Nat} {G : List Int} {px py : Int} {listed : Array Bool} {w' : World} (h : BsC w n0 wd hg o tv hv v n G px py listed w') : BsC w n0 wd hg o tv hv v n G px py (listed.setIfInBounds 7 true) ((w'.setCell ⟨w.heap.size + 1, 0, none⟩ (.int .i64 px)).setCell ⟨w.heap.size + 1, 1, none⟩ (.int .i64 py)) := by
  obtain ⟨h1, h2, h5, h6, a, b, h7, h8⟩ := h
  refine ⟨(h1.setCell (p := ⟨w.heap.size + 1, 0, none⟩) (by simp only; omega) _).setCell (p := ⟨w.heap.size + 1, 1, none⟩) (by simp only; omega) _, (heap_other _ _ _ _ _ (by omega)).trans ((heap_other _ _ _ _ _ (by omega)).trans h2), h5, ownsRow_setCell_below (ownsRow_setCell_below h6 (a := ⟨w.heap.size + 1, 0, none⟩) (by simpa using h5) _) (a := ⟨w.heap.size + 1, 1, none⟩) (by simpa using h5) _, px, py, heap_same (heap_same h7 0 _) 1 _, fun _ => ⟨rfl, rfl⟩⟩
theorem turnG_step {P : Program} {ops : Array Oper} {md : Region.Mode} {n : Nat} {C : Array Bool → World → Prop} {Q : Act → Prop} {o : Oper} {rest : List Oper} {k : Nat} {a : Act} {v : Value} (hw : Region.wanted o (yielded ops a.tmps) = true)
    (h1 : ∀ listed w', C listed w' → TurnUpon P (C (listed.setIfInBounds k true)) v ((execOp a.eval o).run P w')) (h2 : wpTurn P ops md n C Q rest (k + 1) (a.put o.dst v)) : wpTurn P ops md n C Q (o :: rest) k a := ⟨v, .inl ⟨hw, fun listed w _ _ hC => h1 listed w hC⟩, h2⟩
theorem BsC.drew0 {w : World} {n0 : Nat} {wd hg : Int} {o tv hv v : Value} {n : Nat} {G : List Int} {px py : Int} {w' : World} {N : Nat} (h : BsC w n0 wd hg o tv hv v n G px py #[] w') : BsC w n0 wd hg o tv hv v n G px py (Array.replicate N false) { w' with drawn := w'.drawn + 1 } := by
  obtain ⟨h1, h2, h5, h6, a, b, h7, h8⟩ := h.keep ((Below.refl _ w').drew)
  exact ⟨h1, h2, h5, h6, a, b, h7, fun q => by rw [getD_replicate_false] at q; cases q⟩
theorem BsC.row {w : World} {n0 : Nat} {wd hg : Int} {o tv hv v : Value} {n : Nat} {G : List Int} {px py : Int} {listed : Array Bool} {w' : World} (h : BsC w n0 wd hg o tv hv v n G px py listed w') (hn : n = G.length) : INRow w' v G := by
  obtain ⟨_, _, _, h6, _⟩ := h
  subst hn
  have h1 : w'.ownsRow n0 3 1 v (G.map (Value.int .i64 ·)).length (G.map (Value.int .i64 ·)) := by rw [List.length_map]; exact h6
  rcases own_row1 h1 with ⟨h1, h2⟩ | ⟨g9, c9, h1, _, _, h4, h5⟩
  · rw [List.map_eq_nil_iff.1 h2]; exact .inl ⟨_, _, h1, rfl⟩
  · rw [List.length_map] at h1
    exact .inr ⟨g9, 0, c9, h1, h4, fun i hi => by rw [Nat.zero_add]; exact h5 i _ (by rw [List.getElem?_map, List.getElem?_eq_getElem hi, List.getD_eq_getElem?_getD, List.getElem?_eq_getElem hi]; rfl)⟩
def BsI (w W1 : World) (wd hg height rise tick far : Int) (oa : Option Addr) (gn oc : Nat) (tv hv : Value) (D : List Pl) (listed : Array Bool) (a : Act) (w' : World) : Prop := ∃ (l0 l1 l2 l3 l4 l5 l6 l7 l8 : Bool) (V : Value), listed = #[l0, l1, l2, l3, l4, l5, l6, l7, l8] ∧ a = { tmps := #[.agg #[.int .i64 wd, .int .i64 hg, .slice oa gn oc, tv, hv], .int .i64 height, .int .i64 rise, .int .i64 tick, .pointer (some ⟨w.heap.size, 0, none⟩), undef, undef, undef, .pointer (some ⟨w.heap.size + 1, 0, none⟩), .int .i64 0, .int .i64 0, .int .i64 0, pickIf l7 (V) (undef), pickIf l8 (.int .i64 far) (undef), undef, undef, undef, undef, undef, undef, undef, .agg #[.int .i64 wd, .int .i64 hg, .slice oa gn oc, tv, hv], .int .i64 rise, .int .i64 tick, .int .i64 0, .int .i64 0, .bool false, undef, undef, .int .i64 height, .bool true, .bool false, undef, .pointer (some ⟨w.heap.size, 0, none⟩), .pointer (some ⟨w.heap.size, 2, none⟩), .slice oa gn oc, .int .i64 gn, .bool false, undef, pickIf l0 (.agg #[.int .i64 wd, .int .i64 hg, .slice oa gn oc, tv, hv]) (undef), pickIf l1 (.int .i64 rise) (undef), pickIf l2 (.int .i64 tick) (undef), pickIf l3 (V) (undef), pickIf l4 (.agg #[.int .i64 wd, .int .i64 hg, .slice oa gn oc, tv, hv]) (undef), pickIf l5 (.int .i64 tick) (undef), pickIf l6 (.int .i64 far) (undef), undef, undef, undef, undef, undef, undef, undef, undef, undef, undef, undef, undef, undef, undef, undef, undef, undef, undef, undef, undef, undef, undef, undef, undef, undef, undef, undef, undef, undef, undef, undef, undef, undef, undef, undef, undef, undef, undef, undef, undef], defers := [] } ∧ Below W1.heap.size W1 w' ∧ (l3 = true → PlRow w' V D) ∧ (l7 = true → l3 = true)
end Go.Proofs.YtnacgogcbbpjmaaGreat

/-! Best of package ridge where something is wrong. -/
set_option linter.unusedVariables false
set_option linter.unusedSimpArgs false
namespace Go.Proofs.YtnacgogcbbpjmaaGreat
open Go Go.RowKit

end Go.Proofs.YtnacgogcbbpjmaaGreat
