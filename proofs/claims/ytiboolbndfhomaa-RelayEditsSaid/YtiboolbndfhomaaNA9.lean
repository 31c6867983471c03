/- spread of package relay: its state, its first loop. -/
import Derived.Test.YtiboolbndfhomaaNA8
import Derived.Test.YtiboolbndfhomaaNB1
import Derived.Laws.Tables
import Derived.Laws.EntriesVeiled
set_option linter.unusedVariables false
set_option linter.unusedSimpArgs false
namespace Go.Proofs.Ytiboolbndfhomaa
open Go.RowKit

theorem gAt (w : World) (o : Obj) (i : Nat) (h : i = w.heap.size) : (w.alloc o).heap[i]? = some o := by subst h; exact heap_alloc_new w o
theorem gNe (w : World) (o : Obj) (i : Nat) (h : i ≠ w.heap.size) : (w.alloc o).heap[i]? = w.heap[i]? := by
  show (w.heap.push _)[i]? = _
  rw [Array.getElem?_push, if_neg h]
theorem gDrew (w : World) (i : Nat) : w.drew.heap[i]? = w.heap[i]? := rfl
theorem sDrew (w : World) : w.drew.heap.size = w.heap.size := rfl

/-- What lies where while spread goes on. -/
structure SpS (w W : World) (st : Nat) (ov : Value) (A Bb X : Nat) (at' : List Int) (by' : List Sp) : Prop where
  below : Below w.heap.size w W
  big : w.heap.size + 5 ≤ W.heap.size
  net : W.heap[w.heap.size]? = some (.cells #[.int .i64 st, ov] 24 (0, 0))
  res : ∃ u v, W.heap[w.heap.size + 1]? = some (.cells #[u, v] 68 (0, 0))
  lie : w.heap.size + 2 ≤ A ∧ A < w.heap.size + 5 ∧ w.heap.size + 2 ≤ Bb ∧ Bb < w.heap.size + 5 ∧ w.heap.size + 2 ≤ X ∧ X < w.heap.size + 5 ∧ A ≠ Bb ∧ A ≠ X ∧ Bb ≠ X
  hx : W.heap[X]? = some (.cells #[.slice (some ⟨A, 0, none⟩) st st, .slice (some ⟨Bb, 0, none⟩) st st] 68 (0, 0))
  ha : W.heap[A]? = some (.cells (intsA at') 3 (0, 0))
  hb : W.heap[Bb]? = some (.cells (hopsA by') 73 (0, 0))
  la : at'.length = st
  lb : by'.length = st

theorem heap_same {w : World} {g : Nat} {c : Array Value} {e : TypeId} {f : Nat × Nat} (h : w.heap[g]? = some (.cells c e f)) (o : Nat) (v : Value) : (w.setCell ⟨g, o, none⟩ v).heap[g]? = some (.cells (c.setIfInBounds o v) e f) := by
  show (w.heap.modify g _)[g]? = _
  rw [Array.getElem?_modify, if_pos rfl, h]; rfl
theorem heap_other (w : World) (g o : Nat) (v : Value) (b : Nat) (h : b ≠ g) : (w.setCell ⟨g, o, none⟩ v).heap[b]? = w.heap[b]? := Below.heap_setCell _ _ _ b h
theorem size_set (w : World) (g o : Nat) (v : Value) : (w.setCell ⟨g, o, none⟩ v).heap.size = w.heap.size := by simp
theorem cellH {w : World} {g : Nat} {c : Array Value} {e : TypeId} {f : Nat × Nat} (h : w.heap[g]? = some (.cells c e f)) (o : Nat) : w.cell? ⟨g, o, none⟩ = c[o]? := by simp [World.cell?, h]
theorem freeH {w : World} {g : Nat} {c : Array Value} {e : TypeId} (h : w.heap[g]? = some (.cells c e (0, 0))) (o : Nat) : w.frozen? ⟨g, o, none⟩ = false := by simp [World.frozen?, h]
theorem intsA_set (l : List Int) (i : Nat) (v : Int) : (intsA l).setIfInBounds i (.int .i64 v) = intsA (l.set i v) := by
  unfold intsA; rw [List.setIfInBounds_toArray, List.map_set]
theorem fnsA_set (l : List (Option Nat)) (i p : Nat) : (fnsA l).setIfInBounds i (fnV (some p)) = fnsA (l.set i (some p)) := by
  unfold fnsA; rw [List.setIfInBounds_toArray, List.map_set]
theorem intsA_at (l : List Int) (i : Nat) (h : i < l.length) : (intsA l)[i]? = some (.int .i64 (l.getD i 0)) := by
  unfold intsA; simp [List.getElem?_eq_getElem h]
theorem fnsA_at (l : List (Option Nat)) (i : Nat) (h : i < l.length) : (fnsA l)[i]? = some (fnV (l.getD i none)) := by
  unfold fnsA; simp [List.getElem?_eq_getElem h]
theorem SpS.same {w W W' : World} {st : Nat} {ov : Value} {A Bb X : Nat} {at' : List Int} {by' : List Sp} (h : SpS w W st ov A Bb X at' by') (hb : Below w.heap.size w W') (hs : W.heap.size ≤ W'.heap.size) (he : ∀ b, b < w.heap.size + 5 → W'.heap[b]? = W.heap[b]?) : SpS w W' st ov A Bb X at' by' := by
  obtain ⟨l1, l2, l3, l4, l5, l6, l7, l8, l9⟩ := h.lie
  obtain ⟨u, v, hr⟩ := h.res
  exact ⟨hb, Nat.le_trans h.big hs, (he _ (by omega)).trans h.net, ⟨u, v, (he _ (by omega)).trans hr⟩, h.lie, (he _ l6).trans h.hx, (he _ l2).trans h.ha, (he _ l4).trans h.hb, h.la, h.lb⟩
theorem SpS.setA {w W : World} {st : Nat} {ov : Value} {A Bb X : Nat} {at' : List Int} {by' : List Sp} (h : SpS w W st ov A Bb X at' by') (i : Nat) (v : Int) : SpS w (W.setCell ⟨A, i, none⟩ (.int .i64 v)) st ov A Bb X (at'.set i v) by' := by
  obtain ⟨l1, l2, l3, l4, l5, l6, l7, l8, l9⟩ := h.lie
  obtain ⟨u, x, hr⟩ := h.res
  refine ⟨h.below.setCell (p := ⟨A, i, none⟩) (by simp only; omega) _, by rw [size_set]; exact h.big, (heap_other _ _ _ _ _ (by omega)).trans h.net, ⟨u, x, (heap_other _ _ _ _ _ (by omega)).trans hr⟩, h.lie, (heap_other _ _ _ _ _ (by omega)).trans h.hx, ?_, (heap_other _ _ _ _ _ (by omega)).trans h.hb, by rw [List.length_set]; exact h.la, h.lb⟩
  rw [heap_same h.ha, intsA_set]

/-- The functions that least returned, of the stations below j. -/
def fsL (z st j : Nat) : List (Option Nat) := (List.range st).map fun s => if s < j then some (z + 6 + 2 * s) else none
def atJ (st j : Nat) : List Int := (List.range st).map fun s => if s < j then -1 else 0
theorem fsL_len (z st j : Nat) : (fsL z st j).length = st := by simp [fsL]
theorem atJ_len (st j : Nat) : (atJ st j).length = st := by simp [atJ]
theorem fsL_set (z st j : Nat) (h : j < st) : (fsL z st j).set j (some (z + 6 + 2 * j)) = fsL z st (j + 1) := by
  apply List.ext_getElem?
  intro i
  unfold fsL
  by_cases hi : i < st
  · rw [List.getElem?_set]
    by_cases e : j = i
    · subst e; simp [hi]
    · rw [if_neg e]; simp only [List.getElem?_map, List.getElem?_range hi, Option.map_some]
      congr 1
      by_cases h1 : i < j
      · rw [if_pos h1, if_pos (by omega)]
      · rw [if_neg h1, if_neg (by omega)]
  · rw [List.getElem?_eq_none (by simp; omega), List.getElem?_eq_none (by simp; omega)]
theorem atJ_set (st j : Nat) (h : j < st) : (atJ st j).set j (-1) = atJ st (j + 1) := by
  apply List.ext_getElem?
  intro i
  unfold atJ
  by_cases hi : i < st
  · rw [List.getElem?_set]
    by_cases e : j = i
    · subst e; simp [hi]
    · rw [if_neg e]; simp only [List.getElem?_map, List.getElem?_range hi, Option.map_some]
      congr 1
      by_cases h1 : i < j
      · rw [if_pos h1, if_pos (by omega)]
      · rw [if_neg h1, if_neg (by omega)]
  · rw [List.getElem?_eq_none (by simp; omega), List.getElem?_eq_none (by simp; omega)]
theorem fsL_zero (z st : Nat) : fsL z st 0 = List.replicate st none := by
  unfold fsL
  apply List.ext_getElem <;> simp
theorem atJ_zero (st : Nat) : atJ st 0 = List.replicate st 0 := by
  unfold atJ
  apply List.ext_getElem <;> simp
theorem fsL_at (z st j s : Nat) (h : s < j) (h2 : s < st) : (fsL z st j).getD s none = some (z + 6 + 2 * s) := by
  unfold fsL; rw [List.getD_eq_getElem?_getD]; simp [h, h2]
/-- .. and the functions of the stations, with what they keep. -/
structure SpF (w W : World) (st : Nat) (ov : Value) (A Bb X : Nat) (at' : List Int) (by' : List Sp) (j : Nat) (ks : Nat → Option Int) : Prop where
  s : SpS w W st ov A Bb X at' by'
  size : w.heap.size + 6 + 2 * j ≤ W.heap.size
  he : W.heap[w.heap.size + 5]? = some (.cells (fnsA (fsL w.heap.size st j)) 82 (0, 0))
  box : ∀ s, s < j → W.heap[w.heap.size + 6 + 2 * s]? = some (.cells #[.int .i64 ((ks s).getD 0)] 3 (0, 0)) ∧ W.heap[w.heap.size + 7 + 2 * s]? = some (.cells #[.bool (ks s).isSome] 4 (0, 0))
theorem SpF.setA {w W : World} {st : Nat} {ov : Value} {A Bb X : Nat} {at' : List Int} {by' : List Sp} {j : Nat} {ks : Nat → Option Int} (h : SpF w W st ov A Bb X at' by' j ks) (i : Nat) (v : Int) : SpF w (W.setCell ⟨A, i, none⟩ (.int .i64 v)) st ov A Bb X (at'.set i v) by' j ks := by
  obtain ⟨l1, l2, l3, l4, l5, l6, l7, l8, l9⟩ := h.s.lie
  exact ⟨h.s.setA i v, by rw [size_set]; exact h.size, (heap_other _ _ _ _ _ (by omega)).trans h.he, fun s hs => ⟨(heap_other _ _ _ _ _ (by omega)).trans (h.box s hs).1, (heap_other _ _ _ _ _ (by omega)).trans (h.box s hs).2⟩⟩
/-- One more function. -/
theorem SpF.one {w W : World} {st : Nat} {ov : Value} {A Bb X : Nat} {at' : List Int} {by' : List Sp} {j : Nat} {ks : Nat → Option Int} (h : SpF w W st ov A Bb X at' by' j ks) (hj : j < st) (hs : W.heap.size = w.heap.size + 6 + 2 * j) (hk : ks j = none) :
    SpF w (((W.setCell ⟨w.heap.size + 5, j, none⟩ (fnV (some W.heap.size))).alloc (.cells #[.int .i64 0] 3)).alloc (.cells #[.bool false] 4)) st ov A Bb X at' by' (j + 1) ks := by
  obtain ⟨l1, l2, l3, l4, l5, l6, l7, l8, l9⟩ := h.s.lie
  have hz := h.s.below.size
  have e0 : (W.setCell ⟨w.heap.size + 5, j, none⟩ (fnV (some W.heap.size))).heap.size = W.heap.size := size_set _ _ _ _
  have e1 : ∀ b, b < W.heap.size → (((W.setCell ⟨w.heap.size + 5, j, none⟩ (fnV (some W.heap.size))).alloc (.cells #[.int .i64 0] 3)).alloc (.cells #[.bool false] 4)).heap[b]? = (W.setCell ⟨w.heap.size + 5, j, none⟩ (fnV (some W.heap.size))).heap[b]? := fun b hb => by
    rw [gNe _ _ _ (by simp only [World.size_alloc]; omega), gNe _ _ _ (by omega)]
  refine ⟨h.s.same (((h.s.below.setCell (p := ⟨w.heap.size + 5, j, none⟩) (by simp only; omega) _).alloc (by omega) _).alloc (by simp only [World.size_alloc]; omega) _) (by simp only [World.size_alloc]; omega) (fun b hb => by rw [e1 b (by omega), heap_other _ _ _ _ _ (by omega)]), by simp only [World.size_alloc]; omega, ?_, fun s hs' => ?_⟩
  · rw [e1 _ (by omega), heap_same h.he, fnsA_set, hs, fsL_set _ _ _ hj]
  · by_cases e : s = j
    · subst e
      rw [hk]
      refine ⟨?_, ?_⟩
      · rw [gNe _ _ _ (by simp only [World.size_alloc]; omega), gAt _ _ _ (by omega)]; rfl
      · rw [gAt _ _ _ (by simp only [World.size_alloc]; omega)]; rfl
    · rw [e1 _ (by omega), e1 _ (by omega), heap_other _ _ _ _ _ (by omega), heap_other _ _ _ _ _ (by omega)]; exact h.box s (by omega)

theorem SpF.keep {w W W' : World} {st : Nat} {ov : Value} {A Bb X : Nat} {at' : List Int} {by' : List Sp} {j : Nat} {ks : Nat → Option Int} (h : SpF w W st ov A Bb X at' by' j ks) (hb : Below W.heap.size W W') : SpF w W' st ov A Bb X at' by' j ks := by
  have hz := h.s.big
  have hs := h.size
  exact ⟨h.s.same (h.s.below.trans (hb.mono h.s.below.size)) hb.size (fun b hb' => hb.block b (by omega)), Nat.le_trans hs hb.size, (hb.block _ (by have := (Array.getElem?_eq_some_iff.1 h.he).1; exact this)).trans h.he,
    fun s hs' => ⟨(hb.block _ (by omega)).trans (h.box s hs').1, (hb.block _ (by omega)).trans (h.box s hs').2⟩⟩
/-- A function keeps a lesser number. -/
theorem SpF.setK {w W : World} {st : Nat} {ov : Value} {A Bb X : Nat} {at' : List Int} {by' : List Sp} {j : Nat} {ks : Nat → Option Int} (h : SpF w W st ov A Bb X at' by' j ks) {s : Nat} (hs : s < j) (m : Int) :
    SpF w ((W.setCell ⟨w.heap.size + 6 + 2 * s, 0, none⟩ (.int .i64 m)).setCell ⟨w.heap.size + 7 + 2 * s, 0, none⟩ (.bool true)) st ov A Bb X at' by' j (fun x => if x = s then some m else ks x) := by
  have hz := h.s.big
  have hsz := h.size
  have e1 : ∀ b, b ≠ w.heap.size + 6 + 2 * s → b ≠ w.heap.size + 7 + 2 * s → ((W.setCell ⟨w.heap.size + 6 + 2 * s, 0, none⟩ (.int .i64 m)).setCell ⟨w.heap.size + 7 + 2 * s, 0, none⟩ (.bool true)).heap[b]? = W.heap[b]? := fun b h1 h2 => by
    rw [heap_other _ _ _ _ _ h2, heap_other _ _ _ _ _ h1]
  have e2 : ((W.setCell ⟨w.heap.size + 6 + 2 * s, 0, none⟩ (.int .i64 m)).setCell ⟨w.heap.size + 7 + 2 * s, 0, none⟩ (.bool true)).heap.size = W.heap.size := by rw [size_set, size_set]
  refine ⟨h.s.same ((h.s.below.setCell (p := ⟨w.heap.size + 6 + 2 * s, 0, none⟩) (by simp only; omega) _).setCell (p := ⟨w.heap.size + 7 + 2 * s, 0, none⟩) (by simp only; omega) _) (by omega) (fun b hb => e1 b (by omega) (by omega)), by omega, (e1 _ (by omega) (by omega)).trans h.he, fun x hx => ?_⟩
  by_cases c : x = s
  · subst c
    simp only [if_true]
    obtain ⟨b1, b2⟩ := h.box x hx
    refine ⟨?_, ?_⟩
    · rw [heap_other _ _ _ _ _ (by omega), heap_same b1]; rfl
    · have := (heap_other W (w.heap.size + 6 + 2 * x) 0 (.int .i64 m) (w.heap.size + 7 + 2 * x) (by omega)).trans b2
      rw [heap_same this]; rfl
  · simp only [if_neg c]
    rw [e1 _ (by omega) (by omega), e1 _ (by omega) (by omega)]; exact h.box x hx
theorem hopsL_cons (y : Sp) (l : List Sp) : hopsL (y :: l) = .int .i64 y.1 :: .int .i64 y.2 :: hopsL l := rfl
theorem hopsL_set : ∀ (l : List Sp) (i : Nat) (x : Sp), ((hopsL l).set (i * 2) (.int .i64 x.1)).set (i * 2 + 1) (.int .i64 x.2) = hopsL (l.set i x)
  | [], i, x => by simp [hopsL]
  | y :: l, 0, x => by simp [hopsL_cons]
  | y :: l, i + 1, x => by
    have := hopsL_set l i x
    rw [show (i + 1) * 2 = i * 2 + 1 + 1 by omega, List.set_cons_succ, hopsL_cons, hopsL_cons, List.set_cons_succ, List.set_cons_succ, List.set_cons_succ, List.set_cons_succ, this]
theorem hopsL_at : ∀ (l : List Sp) (i : Nat), i < l.length → (hopsL l)[i * 2]? = some (.int .i64 (l.getD i (0, 0)).1) ∧ (hopsL l)[i * 2 + 1]? = some (.int .i64 (l.getD i (0, 0)).2)
  | [], i, h => by simp at h
  | y :: l, 0, _ => by simp [hopsL_cons]
  | y :: l, i + 1, h => by
    have := hopsL_at l i (by simpa using h)
    rw [show (i + 1) * 2 = i * 2 + 1 + 1 by omega, hopsL_cons]
    simpa using this
theorem hopsA_at (l : List Sp) (i : Nat) (h : i < l.length) : (hopsA l)[i * 2]? = some (.int .i64 (l.getD i (0, 0)).1) ∧ (hopsA l)[i * 2 + 1]? = some (.int .i64 (l.getD i (0, 0)).2) := by
  unfold hopsA; simpa using hopsL_at l i h
theorem SpF.setB {w W : World} {st : Nat} {ov : Value} {A Bb X : Nat} {at' : List Int} {by' : List Sp} {j : Nat} {ks : Nat → Option Int} (h : SpF w W st ov A Bb X at' by' j ks) (i : Nat) (x : Sp) :
    SpF w ((W.setCell ⟨Bb, i * 2, none⟩ (.int .i64 x.1)).setCell ⟨Bb, i * 2 + 1, none⟩ (.int .i64 x.2)) st ov A Bb X at' (by'.set i x) j ks := by
  obtain ⟨l1, l2, l3, l4, l5, l6, l7, l8, l9⟩ := h.s.lie
  obtain ⟨u, y, hr⟩ := h.s.res
  have e1 : ∀ b, b ≠ Bb → ((W.setCell ⟨Bb, i * 2, none⟩ (.int .i64 x.1)).setCell ⟨Bb, i * 2 + 1, none⟩ (.int .i64 x.2)).heap[b]? = W.heap[b]? := fun b h1 => by
    rw [heap_other _ _ _ _ _ h1, heap_other _ _ _ _ _ h1]
  have e2 : ((W.setCell ⟨Bb, i * 2, none⟩ (.int .i64 x.1)).setCell ⟨Bb, i * 2 + 1, none⟩ (.int .i64 x.2)).heap.size = W.heap.size := by rw [size_set, size_set]
  refine ⟨⟨(h.s.below.setCell (p := ⟨Bb, i * 2, none⟩) (by simp only; omega) _).setCell (p := ⟨Bb, i * 2 + 1, none⟩) (by simp only; omega) _, by rw [e2]; exact h.s.big, (e1 _ (by omega)).trans h.s.net, ⟨u, y, (e1 _ (by omega)).trans hr⟩, h.s.lie, (e1 _ (by omega)).trans h.s.hx, (e1 _ (by omega)).trans h.s.ha, ?_, h.s.la, by rw [List.length_set]; exact h.s.lb⟩, by rw [e2]; exact h.size, (e1 _ (by omega)).trans h.he, fun s hs => ⟨(e1 _ (by omega)).trans (h.box s hs).1, (e1 _ (by omega)).trans (h.box s hs).2⟩⟩
  rw [heap_same (heap_same h.s.hb (i * 2) (.int .i64 x.1))]
  unfold hopsA
  rw [List.setIfInBounds_toArray, List.setIfInBounds_toArray, hopsL_set]
theorem SpF.congr {w W : World} {st : Nat} {ov : Value} {A Bb X : Nat} {at' : List Int} {by' : List Sp} {j : Nat} {ks ms : Nat → Option Int} (h : SpF w W st ov A Bb X at' by' j ks) (e : ∀ s, s < j → ks s = ms s) : SpF w W st ov A Bb X at' by' j ms :=
  ⟨h.s, h.size, h.he, fun s hs => by rw [← e s hs]; exact h.box s hs⟩
/-- What the functions keep: the numbers of the stations where a word can be. -/
def kOf (l : List Int) (s : Nat) : Option Int := if at0 l s < 0 then none else some (at0 l s)
theorem atJ_full (st : Nat) : atJ st st = List.replicate st (-1) := by
  unfold atJ
  apply List.ext_getElem
  · simp
  · intro i h1 h2
    simp at h1 ⊢
    exact h1
def cM : Value → Nat
  | .int _ n => intM n
  | _ => 0
def mW (W : World) (A : Nat) : Nat := match W.heap[A]? with
  | some (.cells C _ _) => (C.toList.map cM).sum
  | _ => 0
theorem mW_ints {W : World} {A : Nat} {l : List Int} {e : TypeId} {f : Nat × Nat} (h : W.heap[A]? = some (.cells (intsA l) e f)) : mW W A = sumM l := by
  unfold mW sumM; rw [h]
  show ((intsA l).toList.map cM).sum = _
  unfold intsA; simp only [List.map_map]; rfl

/-- What spread returns. -/
def SpreadOut (st : Nat) (ls : List Lk) (a : Nat) (t : Int) (w : World) (e : Ending) (w' : World) : Prop :=
  ∃ (va vb : Value) (at' : List Int) (by' : List Sp), e = .returned (.agg #[va, vb]) ∧ INRow w' va at' ∧ SpRow w' vb by' ∧ Inv st ls a t at' by' ∧ Shut ls at' ∧ Below w.heap.size w w'
theorem info_ar : (Try.prog.info? 68).map (·.size) = some 2 := by kernel_rfl
theorem spread_results {tmps : Array Value} {w : World} {R : Nat} {u v : Value} (h6 : tmps.getD 6 undef = .pointer (some ⟨R, 0, none⟩)) (hg : w.heap[R]? = some (.cells #[u, v] 68 (0, 0))) : (results Try.f40 tmps).run Try.prog w = .ok (.agg #[u, v]) w := by
  have h6' : tmps[6]?.getD undef = .pointer (some ⟨R, 0, none⟩) := by simpa using h6
  simp [results, Try.results40, asAddr, h6', run_loadVar_row w R 68 68 #[u, v] (0, 0) _ hg Try.underlying68 rfl info_ar]

set_option maxRecDepth 100000 in
set_option maxHeartbeats 8000000 in
theorem spread_any (st : Nat) (oa : Option Addr) (oc : Nat) (ls : List Lk) (a : Nat) (t : Int) (w : World) (hst : 1 ≤ st) (hst2 : st ≤ 10) (ha : a < st) (ht0 : 0 ≤ t) (ht1 : t ≤ 1048576) (hv : NRow w (.slice oa ls.length oc) ls) (hks : ∀ k ∈ ls, endsB st k = true ∧ linkE k = 0) (hl40 : ls.length ≤ 40) :
    Calls Try.prog 40 #[.agg #[.int .i64 st, .slice oa ls.length oc], .int .i64 a, .int .i64 t] w fun e w' => SpreadOut st ls a t w e w' := by
  obtain ⟨oa', oc', eq', hlc⟩ := hv.row.form
  cases eq'
  have HLC := Lib.hid hlc
  have HOP := Lib.hid hv.op
  have HKS := Lib.hid hks
  have HEO : Hid (EndsOk st ls) := Lib.hid (fun i hi => by
    have h := endsB_ok (hks _ (lk_mem hi)).1
    unfold frN toN lkA
    omega)
  clear hv hlc hks
  have hm1 := mk_ints st hst2
  have hm2 := mk_hops st hst2
  have hm3 := mk_fns st hst2
  go_enter Try.func40, Try.ntmps40
  go_wp2_with fail
  rename_i Q K hK
  suffices key : ∀ (A Bb X : Nat) (W : World), Hid (SpS w W st (.slice oa ls.length oc) A Bb X (List.replicate st 0) (List.replicate st (0, 0)) ∧ W.heap.size = w.heap.size + 5) → Exit.then K Q Exit.normal
    { tmps := #[.agg #[.int .i64 st, .slice oa ls.length oc], .int .i64 a, .int .i64 t, .pointer (some ⟨w.heap.size, 0, none⟩), undef, undef, .pointer (some ⟨w.heap.size + 1, 0, none⟩), .pointer (some ⟨X, 0, none⟩), undef, undef, undef, undef, undef, undef, undef, .pointer (some ⟨w.heap.size, 0, none⟩), .int .i64 st, .slice (some ⟨A, 0, none⟩) st st, .pointer (some ⟨w.heap.size, 0, none⟩), .int .i64 st, .slice (some ⟨Bb, 0, none⟩) st st, .agg #[.slice (some ⟨A, 0, none⟩) st st, .slice (some ⟨Bb, 0, none⟩) st st], undef, undef, undef, undef, undef, undef, undef, undef, undef, undef, undef, undef, undef, undef, undef, undef, undef, undef, undef, undef, undef, undef, undef, undef, undef, undef, undef, undef, undef, undef, undef, undef, undef, undef, undef, undef, undef, undef, undef, undef, undef, undef, undef, undef, undef, undef, undef, undef, undef, undef, undef, undef, undef, undef, undef, undef, undef, undef, undef, undef, undef, undef, undef, undef, undef, undef, undef, undef, undef, undef, undef, undef, undef, undef, undef, undef, undef, undef, undef, undef, undef, undef, undef, undef, undef, undef, undef], defers := [] } W by
    clear hK hm3
    go_region
    all_goals (refine key _ _ _ _ (Lib.hid ⟨⟨?_, ?_, ?_, ?_, ?_, ?_, ?_, ?_, ?_, ?_⟩, ?_⟩))
    all_goals first
      | exact ((((((Below.refl w.heap.size w).alloc (by simp) _).alloc (by simp) _).alloc (by simp; omega) _).alloc (by simp; omega) _).alloc (by simp; omega) _).drew
      | omega
      | exact List.length_replicate
      | (rw [sDrew]; simp only [World.size_alloc]; done)
      | (rw [sDrew]; simp only [World.size_alloc]; omega)
      | (rw [gDrew]; repeat rw [gNe _ _ _ (by first | omega | (simp only [World.size_alloc]; omega))]
         rw [gAt _ _ _ (by first | omega | (simp only [World.size_alloc]; omega) | (simp only [World.size_alloc]))]; done)
      | (refine ⟨.slice none 0 0, .slice none 0 0, ?_⟩; rw [gDrew]; repeat rw [gNe _ _ _ (by first | omega | (simp only [World.size_alloc]; omega))]
         rw [gAt _ _ _ (by first | omega | (simp only [World.size_alloc]; omega) | (simp only [World.size_alloc]))]; done)
      | trace_state
  intro A Bb X W hS
  show K _ _
  apply hK
  obtain ⟨hS1, hsz⟩ := hS.out
  have n0 := cellH hS1.net 0
  simp at n0
  have HS := Lib.hid hS1
  have HZ := Lib.hid hsz
  have hlt0 : w.heap.size < W.heap.size := by omega
  have hne0 : w.heap.size ≠ W.heap.size := by omega
  have hF0 : SpF w (W.alloc (.cells (fnsA (List.replicate st none)) 82)) st (.slice oa ls.length oc) A Bb X (atJ st 0) (List.replicate st (0, 0)) 0 (fun _ => none) := by
    have hz := hS1.below.size
    refine ⟨by rw [atJ_zero]; exact hS1.same (hS1.below.alloc hz _) (by simp) (fun b hb => gNe _ _ _ (by omega)), by simp only [World.size_alloc]; omega, ?_, fun s hs => by omega⟩
    rw [gAt _ _ _ (by omega), fsL_zero]
  have HF0 := Lib.hid hF0
  clear hS hm1 hm2 hK hS1 hF0
  go_wp2_with fail
  go_loopw [9, 27] (fun _ i wr => ∃ j : Nat, j ≤ st ∧ i = .int .i64 j ∧ Hid (SpF w wr st (.slice oa ls.length oc) A Bb X (atJ st j) (List.replicate st (0, 0)) j (fun _ => none) ∧ wr.heap.size = w.heap.size + 6 + 2 * j)) (fun _ i _ => st - (intOf i).toNat)
  case atStart => exact ⟨0, Nat.zero_le _, rfl, Lib.hid ⟨HF0.out, by simp only [World.size_alloc]; omega⟩⟩
  case round =>
    obtain ⟨j, hj, rfl, hF⟩ := hrel
    by_cases hjl : j < st
    · have hji : (j : Int) < st := by omega
      have hj0 : (0 : Int) ≤ j := by omega
      have hF1 := hF.out.1
      have hsz1 := hF.out.2
      have hsl := hF1.s.lie
      have hX0 : wr.cell? ⟨X, 0, none⟩ = some (.slice (some ⟨A, 0, none⟩) st st) := cellH hF1.s.hx 0
      have hA0 : wr.cell? ⟨A, j, none⟩ = some (.int .i64 ((atJ st j).getD j 0)) := (cellH hF1.s.ha j).trans (intsA_at _ _ (by rw [atJ_len]; exact hjl))
      have hA1 : wr.frozen? ⟨A, j, none⟩ = false := freeH hF1.s.ha j
      obtain ⟨W1, hW1⟩ : ∃ W1, wr.setCell ⟨A, j, none⟩ (.int .i64 (-1)) = W1 := ⟨_, rfl⟩
      have hF2 := hF1.setA j (-1)
      rw [atJ_set _ _ hjl, hW1] at hF2
      have hsz2 : W1.heap.size = w.heap.size + 6 + 2 * j := by rw [← hW1, size_set]; exact hsz1
      have HF3 := Lib.hid (hF2.one hjl hsz2 rfl)
      have HZ3 : Hid ((((W1.setCell ⟨w.heap.size + 5, j, none⟩ (fnV (some W1.heap.size))).alloc (.cells #[.int .i64 0] 3)).alloc (.cells #[.bool false] 4)).heap.size = w.heap.size + 6 + 2 * (j + 1)) := Lib.hid (by simp only [World.size_alloc]; rw [size_set]; omega)
      have hE0 : W1.cell? ⟨w.heap.size + 5, j, none⟩ = some (fnV ((fsL w.heap.size st j).getD j none)) := (cellH hF2.he j).trans (fnsA_at _ _ (by rw [fsL_len]; exact hjl))
      have hE1 : W1.frozen? ⟨w.heap.size + 5, j, none⟩ = false := freeH hF2.he j
      have hWs : W.heap.size = w.heap.size + 5 := HZ.out
      have HLe := Lib.hid (least_any W1)
      have HW1 := Lib.hid hW1
      have HE := Lib.hid (And.intro hE0 hE1)
      have HWs := Lib.hid hWs
      clear hF1 hsz1 hsl hF2 hsz2 hE0 hE1 hW1 hWs
      go_wp2_with fail
      rw [HW1.out]
      refine HLe.out.mono ?_
      rintro e w4 ⟨rfl, rfl⟩
      obtain ⟨hE0, hE1⟩ := HE.out
      have hEs : w.heap.size + 5 < W1.heap.size := by rw [← HW1.out, size_set]; have := hF.out.2; omega
      have hEn : w.heap.size + 5 ≠ W1.heap.size := by omega
      have hEm : w.heap.size + 5 ≠ W1.heap.size + 1 := by omega
      go_wp2_with fail
      go_roundw
      case rel => exact ⟨j + 1, by omega, by go_num, Lib.hid ⟨HF3.out, HZ3.out⟩⟩
      case measure => simp [intOf]; omega
    · obtain rfl : j = st := by omega
      have hF1 := hF.out.1
      have hsl := hF1.s.lie
      have hai : (a : Int) < j := by omega
      have ha0 : (0 : Int) ≤ a := by omega
      have hX0 : wr.cell? ⟨X, 0, none⟩ = some (.slice (some ⟨A, 0, none⟩) j j) := cellH hF1.s.hx 0
      have hA0 : wr.cell? ⟨A, a, none⟩ = some (.int .i64 ((atJ j j).getD a 0)) := (cellH hF1.s.ha a).trans (intsA_at _ _ (by rw [atJ_len]; exact ha))
      have hA1 : wr.frozen? ⟨A, a, none⟩ = false := freeH hF1.s.ha a
      obtain ⟨W1, hW1⟩ : ∃ W1, wr.setCell ⟨A, a, none⟩ (.int .i64 t) = W1 := ⟨_, rfl⟩
      have hF2 := hF1.setA a t
      rw [atJ_full, hW1] at hF2
      have hAn : w.heap.size + 5 ≠ A := by omega
      have hE0 : wr.cell? ⟨w.heap.size + 5, a, none⟩ = some (.func (.func 54) #[] #[.pointer (some ⟨w.heap.size + 6 + 2 * a + 1, 0, none⟩), .pointer (some ⟨w.heap.size + 6 + 2 * a, 0, none⟩)]) := by
        rw [cellH hF1.he a, fnsA_at _ _ (by rw [fsL_len]; exact ha), fsL_at _ _ _ _ ha ha]; rfl
      obtain ⟨bx1, bx2⟩ := hF2.box a ha
      have hLe := Lib.hid (least1_yes t 0 false (w.heap.size + 6 + 2 * a) (w.heap.size + 6 + 2 * a + 1) W1 (fun h => by cases h) (cellH bx1 0) (by rw [show w.heap.size + 6 + 2 * a + 1 = w.heap.size + 7 + 2 * a by omega]; exact cellH bx2 0) (freeH bx1 0) (by rw [show w.heap.size + 6 + 2 * a + 1 = w.heap.size + 7 + 2 * a by omega]; exact freeH bx2 0) (by omega))
      have hF3 := hF2.setK ha t
      have HF3 : Hid (SpF w ((W1.setCell ⟨w.heap.size + 6 + 2 * a, 0, none⟩ (.int .i64 t)).setCell ⟨w.heap.size + 6 + 2 * a + 1, 0, none⟩ (.bool true)) j (.slice oa ls.length oc) A Bb X ((List.replicate j (-1)).set a t) (List.replicate j (0, 0)) j (kOf ((List.replicate j (-1)).set a t))) := Lib.hid (by
        rw [show w.heap.size + 6 + 2 * a + 1 = w.heap.size + 7 + 2 * a by omega]
        refine hF3.congr fun s hs => ?_
        unfold kOf
        rw [at0_set _ _ _ _ (by simpa using ha)]
        by_cases c : s = a
        · rw [if_pos c, if_pos c, if_neg (by omega)]
        · rw [if_neg c, if_neg c]
          unfold at0
          rw [List.getD_eq_getElem?_getD]; simp [hs])
      have HI0 := Lib.hid (Inv.start (ls := ls) ha ht0 ht1)
      have HW1 := Lib.hid hW1
      clear hF1 hsl hF2 hW1 bx1 bx2 hF3 hm3 hF
      go_wp2_with fail
      rw [HW1.out]
      refine hLe.out.mono ?_
      rintro e w4 ⟨rfl, rfl⟩
      go_wp2_with fail
      go_loopw [10] (fun g wr => ∃ (b : Bool) (at' : List Int) (by' : List Sp), g = .bool b ∧ Hid (SpF w wr j (.slice oa ls.length oc) A Bb X at' by' j (kOf at')) ∧ Hid (Inv j ls a t at' by') ∧ Hid (b = false → Shut ls at')) (fun g wr => 2 * mW wr A + (match g with | .bool true => 1 | _ => 0))
      case atStart => exact ⟨true, _, _, rfl, HF3, HI0, Lib.hid (fun h => by cases h)⟩
      case round =>
        obtain ⟨b, at', by', rfl, hF, hI, hSh⟩ := hrel
        clear hE0 hA0 hA1 hX0
        cases b
        · have hsl := hF.out.s.lie
          have hX0 : wr.cell? ⟨X, 0, none⟩ = some (.slice (some ⟨A, 0, none⟩) j j) := cellH hF.out.s.hx 0
          have hX1 : wr.cell? ⟨X, 1, none⟩ = some (.slice (some ⟨Bb, 0, none⟩) j j) := cellH hF.out.s.hx 1
          obtain ⟨r0, r1, hr⟩ := hF.out.s.res
          have hR0 : wr.cell? ⟨w.heap.size + 1, 0, none⟩ = some r0 := cellH hr 0
          have hR1 : wr.cell? ⟨w.heap.size + 1, 1, none⟩ = some r1 := cellH hr 1
          have hR2 := freeH hr 0
          have hR3 := freeH hr 1
          obtain ⟨l1, l2, l3, l4, l5, l6, l7, l8, l9⟩ := hsl
          have hS := hF.out.s
          have hfr : ((wr.setCell ⟨w.heap.size + 1, 0, none⟩ (.slice (some ⟨A, 0, none⟩) j j)).setCell ⟨w.heap.size + 1, 1, none⟩ (.slice (some ⟨Bb, 0, none⟩) j j)).heap[w.heap.size + 1]? = some (.cells #[.slice (some ⟨A, 0, none⟩) j j, .slice (some ⟨Bb, 0, none⟩) j j] 68 (0, 0)) := by
            rw [heap_same (heap_same hr 0 _) 1]; rfl
          have hAf := (heap_other (wr.setCell ⟨w.heap.size + 1, 0, none⟩ (.slice (some ⟨A, 0, none⟩) j j)) (w.heap.size + 1) 1 (.slice (some ⟨Bb, 0, none⟩) j j) A (by omega)).trans ((heap_other wr (w.heap.size + 1) 0 (.slice (some ⟨A, 0, none⟩) j j) A (by omega)).trans hS.ha)
          have hBf := (heap_other (wr.setCell ⟨w.heap.size + 1, 0, none⟩ (.slice (some ⟨A, 0, none⟩) j j)) (w.heap.size + 1) 1 (.slice (some ⟨Bb, 0, none⟩) j j) Bb (by omega)).trans ((heap_other wr (w.heap.size + 1) 0 (.slice (some ⟨A, 0, none⟩) j j) Bb (by omega)).trans hS.hb)
          have hbf : Below w.heap.size w ((wr.setCell ⟨w.heap.size + 1, 0, none⟩ (.slice (some ⟨A, 0, none⟩) j j)).setCell ⟨w.heap.size + 1, 1, none⟩ (.slice (some ⟨Bb, 0, none⟩) j j)) :=
            (hS.below.setCell (p := ⟨w.heap.size + 1, 0, none⟩) (by simp only; omega) _).setCell (p := ⟨w.heap.size + 1, 1, none⟩) (by simp only; omega) _
          have hIN : INRow ((wr.setCell ⟨w.heap.size + 1, 0, none⟩ (.slice (some ⟨A, 0, none⟩) j j)).setCell ⟨w.heap.size + 1, 1, none⟩ (.slice (some ⟨Bb, 0, none⟩) j j)) (.slice (some ⟨A, 0, none⟩) j j) at' :=
            .inr ⟨A, 0, j, by rw [hI.out.la], (Array.getElem?_eq_some_iff.1 hAf).1, fun i hi => by rw [Nat.zero_add, cellH hAf i]; exact intsA_at _ _ hi⟩
          have hSP : SpRow ((wr.setCell ⟨w.heap.size + 1, 0, none⟩ (.slice (some ⟨A, 0, none⟩) j j)).setCell ⟨w.heap.size + 1, 1, none⟩ (.slice (some ⟨Bb, 0, none⟩) j j)) (.slice (some ⟨Bb, 0, none⟩) j j) by' :=
            .inr ⟨Bb, 0, j, by rw [hI.out.lb], (Array.getElem?_eq_some_iff.1 hBf).1, fun i hi => by
              rw [Nat.zero_add, cellH hBf (i * 2), cellH hBf (i * 2 + 1)]; exact hopsA_at _ _ hi⟩
          have HFR := Lib.hid hfr; have HIN := Lib.hid hIN; have HSP := Lib.hid hSP; have HBF := Lib.hid hbf
          clear hfr hAf hBf hbf hIN hSP hS l1 l2 l3 l4 l5 l6 l7 l8 l9
          go_wp2_with fail
          refine bodyPost_ret (spread_results rfl HFR.out) rfl ?_
          exact ⟨_, _, at', by', rfl, HIN.out, HSP.out, hI.out, hSh.out (by first | rfl | trivial), HBF.out⟩
        · have hN1 : wr.cell? ⟨w.heap.size, 1, none⟩ = some (.slice oa ls.length oc) := cellH hF.out.s.net 1
          go_wp2_with fail
          go_loopw [10, 54] (fun g i ws => ∃ (k : Nat) (b : Bool) (at2 : List Int) (by2 : List Sp), k ≤ ls.length ∧ i = .int .i64 k ∧ g = .bool b ∧ Hid (SpF w ws j (.slice oa ls.length oc) A Bb X at2 by2 j (kOf at2)) ∧ Hid (Inv j ls a t at2 by2) ∧ Hid ((b = false → at2 = at' ∧ ∀ i, i < k → ShutAt ls at' i) ∧ (b = true → sumM at2 < sumM at'))) (fun _ i _ => ls.length - (intOf i).toNat)
          case atStart => exact ⟨0, false, at', by', Nat.zero_le _, rfl, rfl, hF, hI, Lib.hid ⟨fun _ => ⟨rfl, fun i hi => by omega⟩, fun h => by cases h⟩⟩
          case round =>
            obtain ⟨k, b2, at2, by2, hk, rfl, rfl, hF2, hI2, hP⟩ := hrel
            clear hN1
            by_cases hkl : k < ls.length
            · obtain ⟨b, off, rfl, hb, c0, c1, c2, ov, c3, hsp⟩ := HLC.out k hkl
              have hB := hF2.out.s.below
              have hki : (k : Int) < ls.length := by omega
              have hk0 : (0 : Int) ≤ k := by omega
              have e0 := (hB.cell (p := ⟨b, _, none⟩) hb).trans c0
              have e1 := (hB.cell (p := ⟨b, _, none⟩) hb).trans c1
              have e2 := (hB.cell (p := ⟨b, _, none⟩) hb).trans c2
              have e3 := (hB.cell (p := ⟨b, _, none⟩) hb).trans c3
              have hlo := HOP.out _ (lk_mem hkl)
              have hen := endsB_ok (HKS.out _ (lk_mem hkl)).1
              have hsp1 := hsp.keep hB
              have HLK : Hid (lkA ls k = ls.getD k .nil) := Lib.hid rfl
              obtain ⟨x, hx⟩ : ∃ x, ls.getD k .nil = x := ⟨_, rfl⟩
              rw [hx] at e0 e1 e2 hlo hsp1 hen HLK
              obtain ⟨fr, to, dl, op⟩ := x
              simp only at e0 e1 e2 hlo hen
              obtain ⟨oa', ocap, rfl, _⟩ := hsp1.form
              obtain ⟨f, rfl⟩ : ∃ f : Nat, fr = f := ⟨fr.toNat, by omega⟩
              obtain ⟨g, rfl⟩ : ∃ g : Nat, to = g := ⟨to.toNat, by omega⟩
              have HFR : Hid (frN ls k = f) := Lib.hid (by unfold frN; rw [HLK.out]; simp)
              have HTO : Hid (toN ls k = g) := Lib.hid (by unfold toN; rw [HLK.out]; simp)
              have hfl : f < j := by omega
              have hgl : g < j := by omega
              have hfi : (f : Int) < j := by omega
              have hgi : (g : Int) < j := by omega
              have hf0 : (0 : Int) ≤ f := by omega
              have hg0 : (0 : Int) ≤ g := by omega
              have hsl := hF2.out.s.lie
              have hbig := hF2.out.size
              have hXs : X < wr.heap.size := by omega
              have hXn : X ≠ wr.heap.size := by omega
              have hAs : A < wr.heap.size := by omega
              have hAn' : A ≠ wr.heap.size := by omega
              have hX0 : wr.cell? ⟨X, 0, none⟩ = some (.slice (some ⟨A, 0, none⟩) j j) := cellH hF2.out.s.hx 0
              have hA0 : wr.cell? ⟨A, f, none⟩ = some (.int .i64 (at0 at2 f)) := (cellH hF2.out.s.ha f).trans (intsA_at _ _ (by rw [hI2.out.la]; exact hfl))
              obtain ⟨lf, hlf⟩ : ∃ y, at0 at2 f = y := ⟨_, rfl⟩
              rw [hlf] at hA0
              have HLF := Lib.hid hlf
              have HFA := Lib.hid (hF2.out.keep ((Below.refl _ wr).alloc (Nat.le_refl wr.heap.size) (.cells #[.int .i64 f, .int .i64 g, .int .i64 dl, .slice oa' op.length ocap] 27)))
              clear c0 c1 c2 c3 hx hsp hen hlf hsl hbig hB
              by_cases p1 : lf < 0
              · have HN : Hid (ShutAt ls at2 k) := Lib.hid (fun h => by rw [HFR.out, HLF.out] at h; omega)
                clear hsp1
                go_wp2_with fail
                go_roundw
                case rel => exact ⟨k + 1, b2, at2, by2, by omega, by go_num, rfl, HFA, hI2, Lib.hid ⟨fun h => by
                  obtain ⟨q1, q2⟩ := hP.out.1 h
                  refine ⟨q1, fun i hi => ?_⟩
                  by_cases c : i = k
                  · subst c; rw [← q1]; exact HN.out
                  · exact q2 i (by omega), hP.out.2⟩⟩
                case measure => simp [intOf]; omega
              have g1 : decide (lf < 0) = false := decide_eq_false p1
              have HLB := Lib.hid (fun d => leaveO_bd (k := ⟨f, g, dl, op⟩) (t := lf) (x := d))
              have HCL := Lib.hid (fun w' (h : Below wr.heap.size wr w') => Leave_any ⟨f, g, dl, op⟩ lf _ w' (hsp1.keep h) hlo)
              unfold lkV at HCL
              simp only at HCL
              obtain ⟨x, hx⟩ : ∃ x, leaveO ⟨f, g, dl, op⟩ lf = x := ⟨_, rfl⟩
              have HX : Hid (leaveO (lkA ls k) (at0 at2 (frN ls k)) = x) := Lib.hid (by rw [HLK.out, HFR.out, HLF.out]; exact hx)
              rw [hx] at HCL HLB
              have HP1 := Lib.hid p1
              clear hx p1 hsp1 hlo
              obtain ⟨W0, hW0⟩ : ∃ W0, wr.alloc (.cells #[.int .i64 f, .int .i64 g, .int .i64 dl, .slice oa' op.length ocap] 27) = W0 := ⟨_, rfl⟩
              rw [hW0] at HFA
              have hl0 : W0.heap[wr.heap.size]? = some (.cells #[.int .i64 f, .int .i64 g, .int .i64 dl, .slice oa' op.length ocap] 27 (0, 0)) := by rw [← hW0]; exact heap_alloc_new wr _
              have hw0 : Below wr.heap.size wr W0 := by rw [← hW0]; exact (Below.refl _ wr).alloc (Nat.le_refl _) _
              have hws : wr.heap.size < W0.heap.size := (Array.getElem?_eq_some_iff.1 hl0).1
              have HCL2 := Lib.hid (fun w' (h : Below W0.heap.size W0 w') => (HCL.out w' (hw0.trans (h.mono hw0.size))).mono fun e w'' (hh : _ ∧ Below w'.heap.size w' w'') => And.intro hh.1 (h.trans (hh.2.mono h.size)))
              have K0 : Hid (∀ W, Below W0.heap.size W0 W → W.cell? ⟨wr.heap.size, 0, none⟩ = some (.int .i64 f) ∧ W.cell? ⟨wr.heap.size, 1, none⟩ = some (.int .i64 g) ∧ W.cell? ⟨wr.heap.size, 2, none⟩ = some (.int .i64 dl) ∧ W.cell? ⟨wr.heap.size, 3, none⟩ = some (.slice oa' op.length ocap) ∧
                  W.cell? ⟨X, 0, none⟩ = some (.slice (some ⟨A, 0, none⟩) j j) ∧ W.cell? ⟨A, f, none⟩ = some (.int .i64 lf)) := Lib.hid (fun W h => by
                have hF := HFA.out.keep h
                have hl := (h.block _ hws).trans hl0
                exact ⟨cellH hl 0, cellH hl 1, cellH hl 2, cellH hl 3, cellH hF.s.hx 0, (cellH hF.s.ha f).trans (by rw [intsA_at _ _ (by rw [hI2.out.la]; exact hfl), ← HLF.out]; rfl)⟩)
              have HL0 := Lib.hid hl0; have HWS := Lib.hid hws; have HW0 := Lib.hid hW0
              clear hl0 hw0 hws HCL hW0
              cases x with
              | none =>
                have HN : Hid (ShutAt ls at2 k) := Lib.hid (fun h d hd => by rw [HX.out] at hd; cases hd)
                unfold optV at HCL2
                go_wp2_with fail
                rw [HW0.out]
                refine wp_region_turn 12 (fun _ w' => Below W0.heap.size W0 w') (by kernel_rfl) (by kernel_rfl) ((Below.refl _ W0).drew) ?_
                simp only [List.take_succ_cons, List.take_zero, List.drop_succ_cons, List.drop_zero]
                (apply turnC_step (by rfl); (intro w' hw'; obtain ⟨q0, q1, q2, q3, q4, q5⟩ := K0.out w' hw'; go_simp; first | exact ⟨hw', rfl⟩ | exact rfl))
                simp only [Act.put, List.setIfInBounds_toArray, List.set_cons_succ, List.set_cons_zero]
                (apply turnC_step (by rfl); (intro w' hw'; obtain ⟨q0, q1, q2, q3, q4, q5⟩ := K0.out w' hw'; go_simp; first | exact ⟨hw', rfl⟩ | exact rfl))
                simp only [Act.put, List.setIfInBounds_toArray, List.set_cons_succ, List.set_cons_zero]
                (apply turnC_step (by rfl); (intro w' hw'; obtain ⟨q0, q1, q2, q3, q4, q5⟩ := K0.out w' hw'; go_simp; first | exact ⟨hw', rfl⟩ | exact rfl))
                simp only [Act.put, List.setIfInBounds_toArray, List.set_cons_succ, List.set_cons_zero]
                (apply turnC_step (by rfl); (intro w' hw'; obtain ⟨q0, q1, q2, q3, q4, q5⟩ := K0.out w' hw'; go_simp; first | exact ⟨hw', rfl⟩ | exact rfl))
                simp only [Act.put, List.setIfInBounds_toArray, List.set_cons_succ, List.set_cons_zero]
                (apply turnC_step (by rfl); (intro w' hw'; obtain ⟨q0, q1, q2, q3, q4, q5⟩ := K0.out w' hw'; go_simp; first | exact ⟨hw', rfl⟩ | exact rfl))
                simp only [Act.put, List.setIfInBounds_toArray, List.set_cons_succ, List.set_cons_zero]
                (apply turnC_step (by rfl); (intro w' hw'; obtain ⟨q0, q1, q2, q3, q4, q5⟩ := K0.out w' hw'; go_simp; first | exact ⟨hw', rfl⟩ | exact rfl))
                simp only [Act.put, List.setIfInBounds_toArray, List.set_cons_succ, List.set_cons_zero]
                (apply turnC_step (by rfl); (intro w' hw'; obtain ⟨q0, q1, q2, q3, q4, q5⟩ := K0.out w' hw'; go_simp; first | exact ⟨hw', rfl⟩ | exact rfl))
                simp only [Act.put, List.setIfInBounds_toArray, List.set_cons_succ, List.set_cons_zero]
                (apply turnC_step (by rfl); (intro w' hw'; go_simp; exact HCL2.out w' hw'))
                simp only [Act.put, List.setIfInBounds_toArray, List.set_cons_succ, List.set_cons_zero]
                (apply turnC_step (by rfl); (intro w' hw'; obtain ⟨q0, q1, q2, q3, q4, q5⟩ := K0.out w' hw'; go_simp; first | exact ⟨hw', rfl⟩ | exact rfl))
                simp only [Act.put, List.setIfInBounds_toArray, List.set_cons_succ, List.set_cons_zero]
                (apply turnC_step (by rfl); (intro w' hw'; obtain ⟨q0, q1, q2, q3, q4, q5⟩ := K0.out w' hw'; go_simp; first | exact ⟨hw', rfl⟩ | exact rfl))
                simp only [Act.put, List.setIfInBounds_toArray, List.set_cons_succ, List.set_cons_zero]
                (apply turnC_step (by rfl); (intro w' hw'; obtain ⟨q0, q1, q2, q3, q4, q5⟩ := K0.out w' hw'; go_simp; first | exact ⟨hw', rfl⟩ | exact rfl))
                simp only [Act.put, List.setIfInBounds_toArray, List.set_cons_succ, List.set_cons_zero]
                (apply turnC_step (by rfl); (intro w' hw'; obtain ⟨q0, q1, q2, q3, q4, q5⟩ := K0.out w' hw'; go_simp; first | exact ⟨hw', rfl⟩ | exact rfl))
                simp only [Act.put, List.setIfInBounds_toArray, List.set_cons_succ, List.set_cons_zero]
                intro listed w4 _ hw4
                have HF4 := Lib.hid (HFA.out.keep hw4)
                clear hw4
                go_wp2_with fail
                go_quiet (fail)
                go_wp2_with fail
                go_roundw
                case rel => exact ⟨k + 1, b2, at2, by2, by omega, by go_num, rfl, Lib.hid (HF4.out.keep (below_drewN (Below.refl _ _) _)), hI2, Lib.hid ⟨fun h => by
                  obtain ⟨q1, q2⟩ := hP.out.1 h
                  refine ⟨q1, fun i hi => ?_⟩
                  by_cases c : i = k
                  · subst c; rw [← q1]; exact HN.out
                  · exact q2 i (by omega), hP.out.2⟩⟩
                case measure => simp [intOf]; omega
              | some d =>
                obtain ⟨d1, d2, d3, d4⟩ := HLB.out d rfl
                simp only at d3 d4
                unfold optV at HCL2
                clear HLB
                go_wp2_with fail
                rw [HW0.out]
                refine wp_region_turn 12 (fun _ w' => Below W0.heap.size W0 w') (by kernel_rfl) (by kernel_rfl) ((Below.refl _ W0).drew) ?_
                simp only [List.take_succ_cons, List.take_zero, List.drop_succ_cons, List.drop_zero]
                (apply turnC_step (by rfl); (intro w' hw'; obtain ⟨q0, q1, q2, q3, q4, q5⟩ := K0.out w' hw'; go_simp; first | exact ⟨hw', rfl⟩ | exact rfl))
                simp only [Act.put, List.setIfInBounds_toArray, List.set_cons_succ, List.set_cons_zero]
                (apply turnC_step (by rfl); (intro w' hw'; obtain ⟨q0, q1, q2, q3, q4, q5⟩ := K0.out w' hw'; go_simp; first | exact ⟨hw', rfl⟩ | exact rfl))
                simp only [Act.put, List.setIfInBounds_toArray, List.set_cons_succ, List.set_cons_zero]
                (apply turnC_step (by rfl); (intro w' hw'; obtain ⟨q0, q1, q2, q3, q4, q5⟩ := K0.out w' hw'; go_simp; first | exact ⟨hw', rfl⟩ | exact rfl))
                simp only [Act.put, List.setIfInBounds_toArray, List.set_cons_succ, List.set_cons_zero]
                (apply turnC_step (by rfl); (intro w' hw'; obtain ⟨q0, q1, q2, q3, q4, q5⟩ := K0.out w' hw'; go_simp; first | exact ⟨hw', rfl⟩ | exact rfl))
                simp only [Act.put, List.setIfInBounds_toArray, List.set_cons_succ, List.set_cons_zero]
                (apply turnC_step (by rfl); (intro w' hw'; obtain ⟨q0, q1, q2, q3, q4, q5⟩ := K0.out w' hw'; go_simp; first | exact ⟨hw', rfl⟩ | exact rfl))
                simp only [Act.put, List.setIfInBounds_toArray, List.set_cons_succ, List.set_cons_zero]
                (apply turnC_step (by rfl); (intro w' hw'; obtain ⟨q0, q1, q2, q3, q4, q5⟩ := K0.out w' hw'; go_simp; first | exact ⟨hw', rfl⟩ | exact rfl))
                simp only [Act.put, List.setIfInBounds_toArray, List.set_cons_succ, List.set_cons_zero]
                (apply turnC_step (by rfl); (intro w' hw'; obtain ⟨q0, q1, q2, q3, q4, q5⟩ := K0.out w' hw'; go_simp; first | exact ⟨hw', rfl⟩ | exact rfl))
                simp only [Act.put, List.setIfInBounds_toArray, List.set_cons_succ, List.set_cons_zero]
                (apply turnC_step (by rfl); (intro w' hw'; go_simp; exact HCL2.out w' hw'))
                simp only [Act.put, List.setIfInBounds_toArray, List.set_cons_succ, List.set_cons_zero]
                (apply turnC_step (by rfl); (intro w' hw'; obtain ⟨q0, q1, q2, q3, q4, q5⟩ := K0.out w' hw'; go_simp; first | exact ⟨hw', rfl⟩ | exact rfl))
                simp only [Act.put, List.setIfInBounds_toArray, List.set_cons_succ, List.set_cons_zero]
                (apply turnC_step (by rfl); (intro w' hw'; obtain ⟨q0, q1, q2, q3, q4, q5⟩ := K0.out w' hw'; go_simp; first | exact ⟨hw', rfl⟩ | exact rfl))
                simp only [Act.put, List.setIfInBounds_toArray, List.set_cons_succ, List.set_cons_zero]
                (apply turnC_step (by rfl); (intro w' hw'; obtain ⟨q0, q1, q2, q3, q4, q5⟩ := K0.out w' hw'; go_simp; first | exact ⟨hw', rfl⟩ | exact rfl))
                simp only [Act.put, List.setIfInBounds_toArray, List.set_cons_succ, List.set_cons_zero]
                (apply turnC_step (by rfl); (intro w' hw'; obtain ⟨q0, q1, q2, q3, q4, q5⟩ := K0.out w' hw'; go_simp; first | exact ⟨hw', rfl⟩ | exact rfl))
                simp only [Act.put, List.setIfInBounds_toArray, List.set_cons_succ, List.set_cons_zero]
                intro listed w4 _ hw4
                have hF4 := HFA.out.keep hw4
                have hl4 := (hw4.block _ HWS.out).trans HL0.out
                have hw4s : wr.heap.size < w4.heap.size := Nat.lt_of_lt_of_le HWS.out hw4.size
                have K1 : Hid (∀ W, Below w4.heap.size w4 W → W.cell? ⟨wr.heap.size, 0, none⟩ = some (.int .i64 f) ∧ W.cell? ⟨wr.heap.size, 1, none⟩ = some (.int .i64 g) ∧ W.cell? ⟨wr.heap.size, 2, none⟩ = some (.int .i64 dl) ∧
                    W.cell? ⟨w.heap.size + 5, g, none⟩ = some (.func (.func 54) #[] #[.pointer (some ⟨w.heap.size + 6 + 2 * g + 1, 0, none⟩), .pointer (some ⟨w.heap.size + 6 + 2 * g, 0, none⟩)]) ∧ True ∧ True) := Lib.hid (fun W h => by
                  have hF := hF4.keep h
                  have hl := (h.block _ hw4s).trans hl4
                  refine ⟨cellH hl 0, cellH hl 1, cellH hl 2, ?_, trivial, trivial⟩
                  rw [cellH hF.he g, fnsA_at _ _ (by rw [fsL_len]; exact hgl), fsL_at _ _ _ _ hgl hgl]; rfl)
                have HF4 := Lib.hid hF4
                have HL4 := Lib.hid hl4; have HW4 := Lib.hid hw4s
                clear hw4 hF4 hl4 hw4s K0 HCL2
                go_wp2_with fail
                refine wp_region_turn 11 (fun _ w' => Below w4.heap.size w4 w') (by kernel_rfl) (by kernel_rfl) ((Below.refl _ w4).drew) ?_
                simp only [List.take_succ_cons, List.take_zero, List.drop_succ_cons, List.drop_zero]
                (apply turnC_step (by rfl); (intro w' hw'; obtain ⟨q0, q1, q2, q3, q4, q5⟩ := K1.out w' hw'; go_simp; first | exact ⟨hw', rfl⟩ | exact rfl))
                simp only [Act.put, List.setIfInBounds_toArray, List.set_cons_succ, List.set_cons_zero]
                (apply turnC_step (by rfl); (intro w' hw'; obtain ⟨q0, q1, q2, q3, q4, q5⟩ := K1.out w' hw'; go_simp; first | exact ⟨hw', rfl⟩ | exact rfl))
                simp only [Act.put, List.setIfInBounds_toArray, List.set_cons_succ, List.set_cons_zero]
                (apply turnC_step (by rfl); (intro w' hw'; obtain ⟨q0, q1, q2, q3, q4, q5⟩ := K1.out w' hw'; go_simp; first | exact ⟨hw', rfl⟩ | exact rfl))
                simp only [Act.put, List.setIfInBounds_toArray, List.set_cons_succ, List.set_cons_zero]
                (apply turnC_step (by rfl); (intro w' hw'; obtain ⟨q0, q1, q2, q3, q4, q5⟩ := K1.out w' hw'; go_simp; first | exact ⟨hw', rfl⟩ | exact rfl))
                simp only [Act.put, List.setIfInBounds_toArray, List.set_cons_succ, List.set_cons_zero]
                (apply turnC_step (by rfl); (intro w' hw'; obtain ⟨q0, q1, q2, q3, q4, q5⟩ := K1.out w' hw'; go_simp; first | exact ⟨hw', rfl⟩ | exact rfl))
                simp only [Act.put, List.setIfInBounds_toArray, List.set_cons_succ, List.set_cons_zero]
                (apply turnC_step (by rfl); (intro w' hw'; obtain ⟨q0, q1, q2, q3, q4, q5⟩ := K1.out w' hw'; go_simp; first | exact ⟨hw', rfl⟩ | exact rfl))
                simp only [Act.put, List.setIfInBounds_toArray, List.set_cons_succ, List.set_cons_zero]
                (apply turnC_step (by rfl); (intro w' hw'; obtain ⟨q0, q1, q2, q3, q4, q5⟩ := K1.out w' hw'; go_simp; first | exact ⟨hw', rfl⟩ | exact rfl))
                simp only [Act.put, List.setIfInBounds_toArray, List.set_cons_succ, List.set_cons_zero]
                (apply turnC_step (by rfl); (intro w' hw'; obtain ⟨q0, q1, q2, q3, q4, q5⟩ := K1.out w' hw'; go_simp; first | exact ⟨hw', rfl⟩ | exact rfl))
                simp only [Act.put, List.setIfInBounds_toArray, List.set_cons_succ, List.set_cons_zero]
                (apply turnC_step (by rfl); (intro w' hw'; obtain ⟨q0, q1, q2, q3, q4, q5⟩ := K1.out w' hw'; go_simp; first | exact ⟨hw', rfl⟩ | exact rfl))
                simp only [Act.put, List.setIfInBounds_toArray, List.set_cons_succ, List.set_cons_zero]
                (apply turnC_step (by rfl); (intro w' hw'; obtain ⟨q0, q1, q2, q3, q4, q5⟩ := K1.out w' hw'; go_simp; first | exact ⟨hw', rfl⟩ | exact rfl))
                simp only [Act.put, List.setIfInBounds_toArray, List.set_cons_succ, List.set_cons_zero]
                (apply turnC_step (by rfl); (intro w' hw'; obtain ⟨q0, q1, q2, q3, q4, q5⟩ := K1.out w' hw'; go_simp; first | exact ⟨hw', rfl⟩ | exact rfl))
                simp only [Act.put, List.setIfInBounds_toArray, List.set_cons_succ, List.set_cons_zero]
                intro listed w5 _ hw5
                have HF5 := Lib.hid (HF4.out.keep hw5)
                have HL5 := Lib.hid ((hw5.block _ HW4.out).trans HL4.out)
                have HW5 := Lib.hid (Nat.lt_of_lt_of_le HW4.out hw5.size)
                clear hw5 K1
                have hbx := HF5.out.box g hgl
                have hp0 := cellH hbx.1 0
                have hq0 : w5.cell? ⟨w.heap.size + 6 + 2 * g + 1, 0, none⟩ = some (.bool (kOf at2 g).isSome) := by rw [show w.heap.size + 6 + 2 * g + 1 = w.heap.size + 7 + 2 * g by omega]; exact cellH hbx.2 0
                have hp1 := freeH hbx.1 0
                have hq1 : w5.frozen? ⟨w.heap.size + 6 + 2 * g + 1, 0, none⟩ = false := by rw [show w.heap.size + 6 + 2 * g + 1 = w.heap.size + 7 + 2 * g by omega]; exact freeH hbx.2 0
                by_cases hno : 0 ≤ at0 at2 g ∧ at0 at2 g ≤ d + dl
                · have hk1 : kOf at2 g = some (at0 at2 g) := by unfold kOf; rw [if_neg (by omega)]
                  rw [hk1] at hp0 hq0
                  have HL := Lib.hid (least1_no (d + dl) (at0 at2 g) (w.heap.size + 6 + 2 * g) (w.heap.size + 6 + 2 * g + 1) w5 hno.2 hp0 hq0)
                  have HN : Hid (ShutAt ls at2 k) := Lib.hid (fun h d' hd => by
                    rw [HX.out] at hd; cases hd
                    rw [HTO.out, HLK.out]; exact hno)
                  clear hbx hp0 hq0 hp1 hq1 hk1 hno
                  go_wp2_with fail
                  refine HL.out.mono ?_
                  rintro e w6 ⟨rfl, rfl⟩
                  go_wp2_with fail
                  go_roundw
                  case rel => exact ⟨k + 1, b2, at2, by2, by omega, by go_num, rfl, HF5, hI2, Lib.hid ⟨fun h => by
                    obtain ⟨q1, q2⟩ := hP.out.1 h
                    refine ⟨q1, fun i hi => ?_⟩
                    by_cases c : i = k
                    · subst c; rw [← q1]; exact HN.out
                    · exact q2 i (by omega), hP.out.2⟩⟩
                  case measure => simp [intOf]; omega
                · have HL := Lib.hid (least1_yes (d + dl) ((kOf at2 g).getD 0) (kOf at2 g).isSome (w.heap.size + 6 + 2 * g) (w.heap.size + 6 + 2 * g + 1) w5 (fun h => by
                    unfold kOf at h ⊢
                    split at h
                    · cases h
                    · rename_i q; rw [if_neg q]; simp only [Option.getD_some]; omega) hp0 hq0 hp1 hq1 (by omega))
                  have hlt : at0 at2 g < 0 ∨ d + dl < at0 at2 g := by omega
                  have HI3 : Hid (Inv j ls a t (at2.set g (d + dl)) (by2.set g ((k : Int), d))) := Lib.hid (by
                    have := hI2.out.relax HEO.out hkl (d := d) (by rw [HFR.out, HLF.out]; have := HP1.out; omega) HX.out (by rw [HTO.out, HLK.out]; exact hlt)
                    rw [HTO.out, HLK.out] at this; exact this)
                  have HSM : Hid (sumM (at2.set g (d + dl)) < sumM at2) := Lib.hid (sumM_set _ _ _ (by rw [hI2.out.la]; exact hgl) (by
                    have := (hI2.out.bd g hgl).2
                    unfold intM
                    rw [if_neg (by omega)]
                    split <;> omega))
                  obtain ⟨W6, hW6⟩ : ∃ W6, (w5.setCell ⟨w.heap.size + 6 + 2 * g, 0, none⟩ (.int .i64 (d + dl))).setCell ⟨w.heap.size + 6 + 2 * g + 1, 0, none⟩ (.bool true) = W6 := ⟨_, rfl⟩
                  have hF6 := HF5.out.setK hgl (d + dl)
                  rw [show w.heap.size + 7 + 2 * g = w.heap.size + 6 + 2 * g + 1 by omega, hW6] at hF6
                  have hl6 : W6.heap[wr.heap.size]? = some (.cells #[.int .i64 f, .int .i64 g, .int .i64 dl, .slice oa' op.length ocap] 27 (0, 0)) := by
                    have := hF2.out.size
                    rw [← hW6, heap_other _ _ _ _ _ (by omega), heap_other _ _ _ _ _ (by omega)]; exact HL5.out
                  have hF7 := hF6.setA g (d + dl)
                  have hl7 := (heap_other W6 A g (.int .i64 (d + dl)) wr.heap.size (by have := hF2.out.size; have := hF2.out.s.lie; omega)).trans hl6
                  have HF8 : Hid (∀ m, SpF w ((((W6.setCell ⟨A, g, none⟩ (.int .i64 (d + dl))).setCell ⟨Bb, g * 2, none⟩ (.int .i64 k)).setCell ⟨Bb, g * 2 + 1, none⟩ (.int .i64 d)).drewN m) j (.slice (some ⟨b, off, none⟩) ls.length oc) A Bb X (at2.set g (d + dl)) (by2.set g ((k : Int), d)) j (kOf (at2.set g (d + dl)))) := Lib.hid (fun m => by
                    refine ((hF7.setB g ((k : Int), d)).keep (below_drewN (Below.refl _ _) m)).congr fun s hs => ?_
                    unfold kOf
                    rw [at0_set _ _ _ _ (by rw [hI2.out.la]; exact hgl)]
                    by_cases c : s = g
                    · rw [if_pos c, if_pos c, if_neg (by omega)]
                    · rw [if_neg c, if_neg c])
                  have K2 : Hid (∀ W, (W = W6 ∨ W = W6.setCell ⟨A, g, none⟩ (.int .i64 (d + dl))) → W.cell? ⟨X, 0, none⟩ = some (.slice (some ⟨A, 0, none⟩) j j) ∧ W.cell? ⟨X, 1, none⟩ = some (.slice (some ⟨Bb, 0, none⟩) j j) ∧ W.cell? ⟨wr.heap.size, 1, none⟩ = some (.int .i64 g) ∧ W.cell? ⟨wr.heap.size, 2, none⟩ = some (.int .i64 dl)) := Lib.hid (fun W h => by
                    rcases h with rfl | rfl
                    · exact ⟨cellH hF6.s.hx 0, cellH hF6.s.hx 1, cellH hl6 1, cellH hl6 2⟩
                    · exact ⟨cellH hF7.s.hx 0, cellH hF7.s.hx 1, cellH hl7 1, cellH hl7 2⟩)
                  have hA6 : W6.cell? ⟨A, g, none⟩ = some (.int .i64 (at2.getD g 0)) := (cellH hF6.s.ha g).trans (intsA_at _ _ (by rw [hI2.out.la]; exact hgl))
                  have hA7 : W6.frozen? ⟨A, g, none⟩ = false := freeH hF6.s.ha g
                  have hBl := hopsA_at by2 g (by rw [hI2.out.lb]; exact hgl)
                  have hB6 := (cellH hF6.s.hb (g * 2)).trans hBl.1
                  have hB7 := (cellH hF6.s.hb (g * 2 + 1)).trans hBl.2
                  have hB8 := freeH hF6.s.hb (g * 2)
                  have hB9 := freeH hF6.s.hb (g * 2 + 1)
                  have hAB : Bb ≠ A := fun h => hF2.out.s.lie.2.2.2.2.2.2.1 h.symm
                  have HW6 := Lib.hid hW6
                  clear hbx hp0 hq0 hp1 hq1 hno hlt hF6 hF7 hl6 hl7 hBl hW6
                  go_wp2_with fail
                  refine HL.out.mono ?_
                  rintro e w6 ⟨rfl, rfl⟩
                  rw [HW6.out]
                  go_wp2_with fail
                  have hwr : IntKind.i64.wrap (d + dl) = d + dl := IntWalk.i64_in _ (by omega)
                  refine wp_region_one 18 16 (W6.setCell ⟨A, g, none⟩ (.int .i64 (d + dl))) (by kernel_rfl) (by kernel_rfl) (by decide) ?_
                  simp only [List.take_succ_cons, List.take_zero, List.drop_succ_cons, List.drop_zero]
                  (apply wpOne_step (by rfl) (by decide); (intro W hW m; obtain ⟨q0, q1, q2, q3⟩ := K2.out W hW; go_simp; exact ⟨⟨_, rfl⟩, rfl⟩))
                  simp only [Act.put, List.setIfInBounds_toArray, List.set_cons_succ, List.set_cons_zero]
                  (apply wpOne_step (by rfl) (by decide); (intro W hW m; obtain ⟨q0, q1, q2, q3⟩ := K2.out W hW; go_simp; exact ⟨⟨_, rfl⟩, rfl⟩))
                  simp only [Act.put, List.setIfInBounds_toArray, List.set_cons_succ, List.set_cons_zero]
                  (apply wpOne_step (by rfl) (by decide); (intro W hW m; obtain ⟨q0, q1, q2, q3⟩ := K2.out W hW; go_simp; exact ⟨⟨_, rfl⟩, rfl⟩))
                  simp only [Act.put, List.setIfInBounds_toArray, List.set_cons_succ, List.set_cons_zero]
                  (apply wpOne_step (by rfl) (by decide); (intro W hW m; obtain ⟨q0, q1, q2, q3⟩ := K2.out W hW; go_simp; exact ⟨⟨_, rfl⟩, rfl⟩))
                  simp only [Act.put, List.setIfInBounds_toArray, List.set_cons_succ, List.set_cons_zero]
                  (apply wpOne_step (by rfl) (by decide); (intro W hW m; obtain ⟨q0, q1, q2, q3⟩ := K2.out W hW; go_simp; exact ⟨⟨_, rfl⟩, rfl⟩))
                  simp only [Act.put, List.setIfInBounds_toArray, List.set_cons_succ, List.set_cons_zero]
                  (apply wpOne_step (by rfl) (by decide); (intro W hW m; obtain ⟨q0, q1, q2, q3⟩ := K2.out W hW; go_simp; exact ⟨⟨_, rfl⟩, rfl⟩))
                  simp only [Act.put, List.setIfInBounds_toArray, List.set_cons_succ, List.set_cons_zero]
                  (apply wpOne_step (by rfl) (by decide); (intro W hW m; obtain ⟨q0, q1, q2, q3⟩ := K2.out W hW; go_simp; exact ⟨⟨_, rfl⟩, rfl⟩))
                  simp only [Act.put, List.setIfInBounds_toArray, List.set_cons_succ, List.set_cons_zero]
                  (apply wpOne_step (by rfl) (by decide); (intro W hW m; obtain ⟨q0, q1, q2, q3⟩ := K2.out W hW; go_simp; exact ⟨⟨_, rfl⟩, rfl⟩))
                  simp only [Act.put, List.setIfInBounds_toArray, List.set_cons_succ, List.set_cons_zero]
                  (apply wpOne_step (by rfl) (by decide); (intro W hW m; obtain ⟨q0, q1, q2, q3⟩ := K2.out W hW; go_simp; exact ⟨⟨_, rfl⟩, rfl⟩))
                  simp only [Act.put, List.setIfInBounds_toArray, List.set_cons_succ, List.set_cons_zero]
                  (apply wpOne_step (by rfl) (by decide); (intro W hW m; obtain ⟨q0, q1, q2, q3⟩ := K2.out W hW; go_simp; exact ⟨⟨_, rfl⟩, rfl⟩))
                  simp only [Act.put, List.setIfInBounds_toArray, List.set_cons_succ, List.set_cons_zero]
                  (apply wpOne_step (by rfl) (by decide); (intro W hW m; obtain ⟨q0, q1, q2, q3⟩ := K2.out W hW; go_simp; exact ⟨⟨_, rfl⟩, rfl⟩))
                  simp only [Act.put, List.setIfInBounds_toArray, List.set_cons_succ, List.set_cons_zero]
                  (apply wpOne_step (by rfl) (by decide); (intro W hW m; obtain ⟨q0, q1, q2, q3⟩ := K2.out W hW; go_simp; exact ⟨⟨_, rfl⟩, rfl⟩))
                  simp only [Act.put, List.setIfInBounds_toArray, List.set_cons_succ, List.set_cons_zero]
                  rw [hwr]
                  (apply wpOne_step (by rfl) (by decide); (intro W hW m; obtain ⟨q0, q1, q2, q3⟩ := K2.out W hW; go_simp; exact ⟨⟨_, rfl⟩, rfl⟩))
                  simp only [Act.put, List.setIfInBounds_toArray, List.set_cons_succ, List.set_cons_zero]
                  (apply wpOne_step (by rfl) (by decide); (intro W hW m; obtain ⟨q0, q1, q2, q3⟩ := K2.out W hW; go_simp; exact ⟨⟨_, rfl⟩, rfl⟩))
                  simp only [Act.put, List.setIfInBounds_toArray, List.set_cons_succ, List.set_cons_zero]
                  (apply wpOne_step (by rfl) (by decide); (intro W hW m; obtain ⟨q0, q1, q2, q3⟩ := K2.out W hW; go_simp; exact ⟨⟨_, rfl⟩, rfl⟩))
                  simp only [Act.put, List.setIfInBounds_toArray, List.set_cons_succ, List.set_cons_zero]
                  (apply wpOne_step (by rfl) (by decide); (intro W hW m; obtain ⟨q0, q1, q2, q3⟩ := K2.out W hW; go_simp; exact ⟨⟨_, rfl⟩, rfl⟩))
                  simp only [Act.put, List.setIfInBounds_toArray, List.set_cons_succ, List.set_cons_zero]
                  (apply wpOne_turn (by rfl); (intro m; go_simp; exact ⟨⟨_, rfl⟩, rfl⟩))
                  simp only [Act.put, List.setIfInBounds_toArray, List.set_cons_succ, List.set_cons_zero]
                  (apply wpOne_step (by rfl) (by decide); (intro W hW m; obtain ⟨q0, q1, q2, q3⟩ := K2.out W hW; go_simp; exact ⟨⟨_, rfl⟩, rfl⟩))
                  simp only [Act.put, List.setIfInBounds_toArray, List.set_cons_succ, List.set_cons_zero]
                  intro m
                  go_wp2_with fail
                  go_roundw
                  case rel => exact ⟨k + 1, true, at2.set g (d + dl), by2.set g ((k : Int), d), by omega, by go_num, rfl, Lib.hid (HF8.out _), HI3, Lib.hid ⟨fun h => (by cases h), fun _ => by
                    have := HSM.out
                    cases b2
                    · rw [(hP.out.1 rfl).1] at this; rwa [(hP.out.1 rfl).1]
                    · exact Nat.lt_trans this (hP.out.2 rfl)⟩⟩
                  case measure => simp [intOf]; omega
            · obtain rfl : k = ls.length := by omega
              go_wp2_with fail
              go_roundw
              case rel => exact ⟨b2, at2, by2, rfl, hF2, hI2, Lib.hid (fun h => by
                obtain ⟨e, h2⟩ := hP.out.1 h
                rw [e]; exact h2)⟩
              case measure =>
                rw [mW_ints hF2.out.s.ha, mW_ints hF.out.s.ha]
                cases b2
                · rw [(hP.out.1 rfl).1]; simp
                · have := hP.out.2 rfl
                  simp only
                  omega
end Go.Proofs.Ytiboolbndfhomaa
