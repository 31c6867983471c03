/- Latest of package relay: plain theory and the walk. -/
import Derived.Test.YtiboolbndfhomaaNB2
set_option linter.unusedVariables false
set_option linter.unusedSimpArgs false
namespace Go.Proofs.Ytiboolbndfhomaa
open Go.RowKit

theorem lastL_bd : ∀ (l : List Sp) (e d t : Int) (o : Option Int) (x : Int), okS e l = true → lastL l d t o = some x → o = some x ∨ (e < x ∧ x + d ≤ t ∧ x + d ≤ 1048576)
  | [], _, _, _, _, _, _, h => .inl h
  | s :: l, e, d, t, o, x, ho, h => by
    simp only [okS, Bool.and_eq_true, decide_eq_true_eq] at ho
    obtain ⟨⟨⟨h1, h2⟩, h3⟩, h4⟩ := ho
    unfold lastL at h
    rcases lastL_bd l s.2 d t _ x h4 h with q | q
    · split at q
      · cases q; right; omega
      · exact .inl q
    · right; omega
theorem lastO_bd {k : Lk} {t x : Int} (h : lastO k t = some x) : 0 ≤ x ∧ x + k.dl ≤ t ∧ x + k.dl ≤ 1048576 ∧ 1 ≤ k.dl := by
  unfold lastO at h
  split at h
  · rename_i h1
    obtain ⟨d1, d2, d3, d4⟩ := linkE_ok h1
    rcases lastL_bd _ _ _ _ _ _ d4 h with q | q
    · cases q
    · omega
  · cases h
theorem lastL_mono : ∀ (l : List Sp) (e d x y : Int) (o o' : Option Int), okS e l = true → 0 ≤ d → x ≤ y → (∀ u, o = some u → u ≤ e ∧ ∃ u', o' = some u' ∧ u ≤ u') → ∀ u, lastL l d x o = some u → ∃ u', lastL l d y o' = some u' ∧ u ≤ u'
  | [], _, _, _, _, _, _, _, _, _, h, u, hu => (h u hu).2
  | s :: l, e, d, x, y, o, o', ho, hd, hxy, h, u, hu => by
    simp only [okS, Bool.and_eq_true, decide_eq_true_eq] at ho
    obtain ⟨⟨⟨h1, h2⟩, h3⟩, h4⟩ := ho
    unfold lastL at hu ⊢
    refine lastL_mono l s.2 d x y _ _ h4 hd hxy (fun v hv => ?_) u hu
    by_cases c : s.1 + d ≤ min s.2 x
    · rw [if_pos c] at hv
      cases hv
      refine ⟨by omega, ?_⟩
      rw [if_pos (by omega)]
      exact ⟨_, rfl, by omega⟩
    · rw [if_neg c] at hv
      obtain ⟨q1, u', q2, q3⟩ := h v hv
      refine ⟨by omega, ?_⟩
      by_cases c2 : s.1 + d ≤ min s.2 y
      · rw [if_pos c2]; exact ⟨_, rfl, by omega⟩
      · rw [if_neg c2]; exact ⟨u', q2, q3⟩
theorem lastO_mono {k : Lk} {x y u : Int} (hxy : x ≤ y) (h : lastO k x = some u) : ∃ u', lastO k y = some u' ∧ u ≤ u' := by
  unfold lastO at h ⊢
  by_cases c : linkE k = 0
  · rw [if_pos c] at h ⊢
    obtain ⟨d1, d2, d3, d4⟩ := linkE_ok c
    exact lastL_mono _ _ _ _ _ _ _ d4 (by omega) hxy (fun v hv => by cases hv) u h
  · rw [if_neg c] at h; cases h
/-- A word that leaves s at m can be at b up to t. -/
inductive Back (ls : List Lk) (b : Nat) (t : Int) : Nat → Int → Prop
  | start : Back ls b t b t
  | step {m d : Int} (i : Nat) : i < ls.length → Back ls b t (toN ls i) m → lastO (lkA ls i) m = some d → Back ls b t (frN ls i) d
theorem Back.soon {ls : List Lk} {b : Nat} {t : Int} {s : Nat} {m : Int} (h : Back ls b t s m) : m ≤ t := by
  induction h with
  | start => exact Int.le_refl _
  | step i hi _ hl ih => have := lastO_bd hl; omega
structure InvL (st : Nat) (ls : List Lk) (b : Nat) (t : Int) (at' : List Int) : Prop where
  la : at'.length = st
  bl : b < st
  bd : ∀ s, s < st → -1 ≤ at0 at' s ∧ at0 at' s ≤ 1048576
  fr : t ≤ at0 at' b
  wk : ∀ s, s < st → 0 ≤ at0 at' s → Back ls b t s (at0 at' s)
theorem InvL.start {st : Nat} {ls : List Lk} {b : Nat} {t : Int} (hb : b < st) (ht : 0 ≤ t) (ht2 : t ≤ 1048576) : InvL st ls b t ((List.replicate st (-1)).set b t) := by
  have e : ∀ s, s < st → at0 ((List.replicate st (-1)).set b t) s = if s = b then t else -1 := fun s hs => by
    rw [at0_set _ _ _ _ (by simpa using hb)]
    by_cases h : s = b
    · rw [if_pos h, if_pos h]
    · rw [if_neg h, if_neg h]; unfold at0; rw [List.getD_eq_getElem?_getD]; simp [hs]
  refine ⟨by simp, hb, fun s hs => ?_, ?_, fun s hs h => ?_⟩
  · rw [e s hs]; split <;> omega
  · rw [e b hb, if_pos rfl]; exact Int.le_refl _
  · rw [e s hs] at h ⊢
    by_cases c : s = b
    · rw [if_pos c]; subst c; exact .start
    · rw [if_neg c] at h; omega
theorem InvL.relax {st : Nat} {ls : List Lk} {b : Nat} {t : Int} {at' : List Int} (h : InvL st ls b t at') (he : EndsOk st ls) {i : Nat} (hi : i < ls.length) {d : Int} (hd : lastO (lkA ls i) (at0 at' (toN ls i)) = some d) (hl : at0 at' (frN ls i) < d) : InvL st ls b t (at'.set (frN ls i) d) := by
  obtain ⟨e1, e2, e3⟩ := he i hi
  obtain ⟨b1, b2, b3, b4⟩ := lastO_bd hd
  have hw : Back ls b t (frN ls i) d := .step i hi (h.wk _ e2 (by omega)) hd
  have hs := hw.soon
  have eA : ∀ s, at0 (at'.set (frN ls i) d) s = if s = frN ls i then d else at0 at' s := fun s => at0_set _ _ _ _ (by rw [h.la]; exact e1)
  refine ⟨by rw [List.length_set]; exact h.la, h.bl, fun s hs' => ?_, ?_, fun s hs' hp => ?_⟩
  · rw [eA]; split
    · omega
    · exact h.bd s hs'
  · rw [eA]; split
    · rename_i c; have := h.fr; rw [c] at this; omega
    · exact h.fr
  · rw [eA] at hp ⊢
    by_cases c : s = frN ls i
    · rw [if_pos c]; subst c; exact hw
    · rw [if_neg c] at hp ⊢; exact h.wk s hs' hp
def ShutLAt (ls : List Lk) (at' : List Int) (i : Nat) : Prop := ∀ d, lastO (lkA ls i) (at0 at' (toN ls i)) = some d → d ≤ at0 at' (frN ls i)
def ShutL (ls : List Lk) (at' : List Int) : Prop := ∀ i, i < ls.length → ShutLAt ls at' i
theorem ShutL.ge {ls : List Lk} {at' : List Int} {b : Nat} {t : Int} (h : ShutL ls at') (hb : t ≤ at0 at' b) {s : Nat} {m : Int} (hw : Back ls b t s m) : m ≤ at0 at' s := by
  induction hw with
  | start => exact hb
  | step i hi _ hl ih =>
    obtain ⟨u, h1, h2⟩ := lastO_mono ih hl
    have := h i hi u h1
    omega
theorem InvL.unique {st : Nat} {ls : List Lk} {b : Nat} {t : Int} {x y : List Int} (h : InvL st ls b t x) (k : InvL st ls b t y) (hs : ShutL ls x) (ks : ShutL ls y) : x = y := by
  apply List.ext_getElem (by rw [h.la, k.la])
  intro i h1 h2
  have hi : i < st := by rw [← h.la]; exact h1
  have e1 : at0 x i = x[i] := by unfold at0; rw [List.getD_eq_getElem?_getD, List.getElem?_eq_getElem h1]; rfl
  have e2 : at0 y i = y[i] := by unfold at0; rw [List.getD_eq_getElem?_getD, List.getElem?_eq_getElem h2]; rfl
  rw [← e1, ← e2]
  have b1 := h.bd i hi
  have b2 := k.bd i hi
  by_cases c1 : 0 ≤ at0 x i
  · have q1 := ks.ge k.fr (h.wk i hi c1)
    have q2 := hs.ge h.fr (k.wk i hi (by omega))
    omega
  · by_cases c2 : 0 ≤ at0 y i
    · have q2 := hs.ge h.fr (k.wk i hi c2)
      omega
    · omega
def intL (x : Int) : Nat := (1048577 - x).toNat
def sumL (l : List Int) : Nat := (l.map intL).sum
theorem sumL_set : ∀ (l : List Int) (i : Nat) (v : Int), i < l.length → intL v < intL (at0 l i) → sumL (l.set i v) < sumL l
  | [], i, v, h, _ => by simp at h
  | x :: l, 0, v, _, h => by
    unfold sumL at0 at *
    simp only [List.set_cons_zero, List.map_cons, List.sum_cons, List.getD_cons_zero] at h ⊢
    omega
  | x :: l, i + 1, v, hi, h => by
    have := sumL_set l i v (by simpa using hi) (by unfold at0 at *; simpa using h)
    unfold sumL at *
    simp only [List.set_cons_succ, List.map_cons, List.sum_cons]
    omega
def cL : Value → Nat
  | .int _ n => intL n
  | _ => 0
def mL (W : World) (A : Nat) : Nat := match W.heap[A]? with
  | some (.cells C _ _) => (C.toList.map cL).sum
  | _ => 0
theorem mL_ints {W : World} {A : Nat} {l : List Int} {e : TypeId} {f : Nat × Nat} (h : W.heap[A]? = some (.cells (intsA l) e f)) : mL W A = sumL l := by
  unfold mL sumL; rw [h]
  show ((intsA l).toList.map cL).sum = _
  unfold intsA; simp only [List.map_map]; rfl
/-- What lies where while Latest goes on. -/
structure LtS (w W : World) (st : Nat) (ov : Value) (A : Nat) (at' : List Int) : Prop where
  below : Below w.heap.size w W
  net : W.heap[w.heap.size]? = some (.cells #[.int .i64 st, ov] 24 (0, 0))
  lie : w.heap.size < A ∧ A < W.heap.size
  ha : W.heap[A]? = some (.cells (intsA at') 3 (0, 0))
  la : at'.length = st
theorem LtS.keep {w W W' : World} {st : Nat} {ov : Value} {A : Nat} {at' : List Int} (h : LtS w W st ov A at') (hb : Below W.heap.size W W') : LtS w W' st ov A at' := by
  obtain ⟨l1, l2⟩ := h.lie
  exact ⟨h.below.trans (hb.mono h.below.size), (hb.block _ (by omega)).trans h.net, ⟨l1, Nat.lt_of_lt_of_le l2 hb.size⟩, (hb.block _ l2).trans h.ha, h.la⟩
theorem LtS.setA {w W : World} {st : Nat} {ov : Value} {A : Nat} {at' : List Int} (h : LtS w W st ov A at') (i : Nat) (v : Int) : LtS w (W.setCell ⟨A, i, none⟩ (.int .i64 v)) st ov A (at'.set i v) := by
  obtain ⟨l1, l2⟩ := h.lie
  refine ⟨h.below.setCell (p := ⟨A, i, none⟩) (by simp only; omega) _, (heap_other _ _ _ _ _ (by omega)).trans h.net, ⟨l1, by rw [size_set]; exact l2⟩, ?_, by rw [List.length_set]; exact h.la⟩
  rw [heap_same h.ha, intsA_set]
end Go.Proofs.Ytiboolbndfhomaa
