/- Theory of ridge: the list that the reference's line builds. -/
import Derived.Test.YtjllkmekchmmbaaHT4
import Derived.Test.YtjllkmekchmmbaaHB7
set_option linter.unusedVariables false
set_option linter.unusedSimpArgs false
namespace Go.Proofs.Ytjllkmekchmmbaa
open Go Go.RowKit

/-- The crossings that were put in order, ahead of the crossing of an axis with a step. -/
structure StL (dx dy i s : Nat) (L : List (Nat × Nat)) : Prop where
  pw : L.Pairwise (ltC dx dy)
  mem : ∀ y, y ∈ L ↔ isC dx dy y ∧ (y.1 < i ∨ y.1 = i ∧ y.2 < s)
  len : L.length + 1 ≤ 48 * i + s
theorem StL.start (dx dy : Nat) : StL dx dy 0 1 [] := ⟨List.Pairwise.nil, fun y => by
  simp only [List.not_mem_nil, false_iff]
  rintro ⟨h1, h2⟩
  unfold isC at h1
  omega, by simp⟩
theorem StL.next {dx dy i : Nat} {L : List (Nat × Nat)} (h : StL dx dy i 49 L) (h1 : dx ≤ 48) (h2 : dy ≤ 48) : StL dx dy (i + 1) 1 L := ⟨h.pw, fun y => by
  rw [h.mem]
  unfold isC
  omega, by have := h.len; omega⟩
theorem StL.skip {dx dy i s : Nat} {L : List (Nat × Nat)} (h : StL dx dy i s L) (hn : ¬ isC dx dy (i, s)) : StL dx dy i (s + 1) L := ⟨h.pw, fun y => by
  rw [h.mem]
  constructor
  · rintro ⟨h1, h2⟩; exact ⟨h1, by omega⟩
  · rintro ⟨h1, h2⟩
    refine ⟨h1, ?_⟩
    by_cases e : y = (i, s)
    · subst e; exact absurd h1 hn
    · have : ¬ (y.1 = i ∧ y.2 = s) := fun ⟨e1, e2⟩ => e (Prod.ext e1 e2)
      omega, by have := h.len; omega⟩
theorem StL.put {dx dy i s k : Nat} {L : List (Nat × Nat)} (h : StL dx dy i s L) (hc : isC dx dy (i, s)) (hk : k ≤ L.length)
    (h1 : ∀ j (hj : j < L.length), k ≤ j → keyC dx dy (i, s) < keyC dx dy L[j]) (h2 : k = 0 ∨ ∃ hj : k - 1 < L.length, ¬ keyC dx dy (i, s) < keyC dx dy L[k - 1]) : StL dx dy i (s + 1) (L.take k ++ (i, s) :: L.drop k) := by
  refine ⟨ins_sorted h.pw hk hc (fun y hy => ?_) h1 h2, fun y => ?_, ?_⟩
  · have := (h.mem y).1 hy
    exact ⟨this.1, this.2⟩
  · have e : y ∈ L.take k ++ (i, s) :: L.drop k ↔ y = (i, s) ∨ y ∈ L := by
      rw [List.mem_append, List.mem_cons]
      conv => rhs; rw [← List.take_append_drop k L, List.mem_append]
      constructor
      · rintro (h | h | h) <;> simp [h]
      · rintro (h | h | h) <;> simp [h]
    rw [e, h.mem]
    constructor
    · rintro (rfl | ⟨h1, h2⟩)
      · exact ⟨hc, by simp⟩
      · exact ⟨h1, by omega⟩
    · rintro ⟨h1, h2⟩
      by_cases e : y = (i, s)
      · exact .inl e
      · have : ¬ (y.1 = i ∧ y.2 = s) := fun ⟨e1, e2⟩ => e (Prod.ext e1 e2)
        exact .inr ⟨h1, by omega⟩
  · have := h.len
    simp only [List.length_append, List.length_take, List.length_cons, List.length_drop]
    omega
theorem StL.done {dx dy : Nat} {L : List (Nat × Nat)} (h : StL dx dy 2 1 L) : L = crsM dx dy 1 1 := crsM_unique h.pw fun y => by
  rw [h.mem]
  unfold isC
  omega
/-- The list while its elements are shifted to make room at k. -/
def shL {α : Type} (L : List α) (x : α) (i : Nat) : List α := (L ++ [x]).take (i + 1) ++ L.drop i
theorem shL_len {α : Type} (L : List α) (x : α) {i : Nat} (hi : i ≤ L.length) : (shL L x i).length = L.length + 1 := by
  unfold shL; simp; omega
theorem shL_top {α : Type} (L : List α) (x : α) : shL L x L.length = L ++ [x] := by
  unfold shL
  rw [List.take_of_length_le (by simp), List.drop_length, List.append_nil]
theorem shL_get {α : Type} (L : List α) (x : α) {i : Nat} (hi : i < L.length) : (shL L x (i + 1))[i]? = L[i]? := by
  unfold shL
  rw [List.getElem?_append_left (by simp; omega), List.getElem?_take_of_lt (by omega), List.getElem?_append_left hi]
theorem shL_step {α : Type} (L : List α) (x : α) {i : Nat} (hi : i < L.length) : (shL L x (i + 1)).set (i + 1) L[i] = shL L x i := by
  apply List.ext_getElem?
  intro j
  rw [List.getElem?_set]
  have hl := shL_len L x (show i + 1 ≤ L.length from hi)
  by_cases e : i + 1 = j
  · subst e
    rw [if_pos rfl, if_pos (by omega)]
    unfold shL
    rw [List.getElem?_append_right (by simp; omega)]
    simp only [List.length_take, List.length_append, List.length_cons, List.length_nil]
    rw [show i + 1 - min (i + 1) (L.length + (0 + 1)) = 0 by omega, List.getElem?_drop]
    rw [Nat.add_zero, List.getElem?_eq_getElem hi]
  · rw [if_neg e]
    unfold shL
    by_cases h1 : j ≤ i
    · rw [List.getElem?_append_left (by simp; omega), List.getElem?_append_left (by simp; omega), List.getElem?_take_of_lt (by omega), List.getElem?_take_of_lt (by omega)]
    · rw [List.getElem?_append_right (by simp; omega), List.getElem?_append_right (by simp; omega)]
      simp only [List.length_take, List.length_append, List.length_cons, List.length_nil, List.getElem?_drop]
      congr 1
      omega
theorem shL_end {α : Type} (L : List α) (x : α) {k : Nat} (hk : k ≤ L.length) : (shL L x k).set k x = L.take k ++ x :: L.drop k := by
  apply List.ext_getElem?
  intro j
  rw [List.getElem?_set]
  have hl := shL_len L x hk
  by_cases e : k = j
  · subst e
    rw [if_pos rfl, if_pos (by omega), List.getElem?_append_right (by simp; omega)]
    simp only [List.length_take]
    rw [show k - min k L.length = 0 by omega]; rfl
  · rw [if_neg e]
    unfold shL
    by_cases h1 : j < k
    · rw [List.getElem?_append_left (by simp; omega), List.getElem?_append_left (by simp; omega), List.getElem?_take_of_lt (by omega), List.getElem?_take_of_lt (by omega), List.getElem?_append_left (by omega)]
    · rw [List.getElem?_append_right (by simp; omega), List.getElem?_append_right (by simp; omega)]
      simp only [List.length_take, List.length_append, List.length_cons, List.length_nil]
      rw [show j - min (k + 1) (L.length + (0 + 1)) = j - k - 1 by omega, show j - min k L.length = (j - k - 1) + 1 by omega, List.getElem?_cons_succ]
theorem pfs_at6 : ∀ (l : List Mt) (i j : Nat) (hi : i < l.length), j < 6 → (pfs l)[6 * i + j]? = some ((pfL (l[i])).getD j undef)
  | [], i, j, hi, _ => absurd hi (by simp)
  | x :: t, 0, j, _, hj => by
    rcases (by omega : j = 0 ∨ j = 1 ∨ j = 2 ∨ j = 3 ∨ j = 4 ∨ j = 5) with rfl | rfl | rfl | rfl | rfl | rfl <;> rfl
  | x :: t, i + 1, j, hi, hj => by
    have h := pfs_at6 t i j (by simpa using hi) hj
    rw [show 6 * (i + 1) + j = 6 * i + j + 6 by omega]
    exact h
theorem pf_form {w : World} {base : Nat} {v : Value} {l : List Mt} (h : w.ownsRow base 91 6 v l.length (pfs l)) : ∃ a cap, v = .slice a l.length cap ∧ ∀ i (hi : i < l.length), ∃ gb, a = some ⟨gb, 0, none⟩ ∧ gb < w.heap.size ∧ ∀ j, j < 6 → w.cell? ⟨gb, i * 6 + j, none⟩ = some ((pfL (l[i])).getD j undef) := by
  have h' := h
  rcases h.2 with ⟨h0, hn⟩ | ⟨gb, cap, cur, hv, hg, hb, _⟩
  · exact ⟨none, 0, by rw [hn]; exact h0, fun i hi => by omega⟩
  · subst hv
    refine ⟨_, cap, rfl, fun i hi => ⟨gb, rfl, (Array.getElem?_eq_some_iff.1 hb).1, fun j hj => ?_⟩⟩
    have e := pfs_at6 l i j hi hj
    have hlt : 6 * i + j < (pfs l).length := by
      rcases Nat.lt_or_ge (6 * i + j) (pfs l).length with k | k
      · exact k
      · rw [List.getElem?_eq_none k] at e; cases e
    have hl6 : (pfs l).length = l.length * 6 := h.1
    have := World.ownsRow.cellAt h' (6 * i + j) (by omega)
    rw [show i * 6 + j = 6 * i + j by omega, this, ← e, List.getElem?_eq_getElem hlt]
theorem pf_formL {w : World} {base : Nat} {v : Value} {L : List (Nat × Nat)} {f : Nat × Nat → Mt} (h : w.ownsRow base 91 6 v L.length (pfs (L.map f))) : ∃ a cap, v = .slice a L.length cap ∧ ∀ i (hi : i < L.length), ∃ gb, a = some ⟨gb, 0, none⟩ ∧ gb < w.heap.size ∧ ∀ j, j < 6 → w.cell? ⟨gb, i * 6 + j, none⟩ = some ((pfL (f (L[i]))).getD j undef) := by
  obtain ⟨a, cap, e, h2⟩ := pf_form (l := L.map f) (by rw [List.length_map]; exact h)
  rw [List.length_map] at e
  refine ⟨a, cap, e, fun i hi => ?_⟩
  obtain ⟨gb, e1, e2, e3⟩ := h2 i (by rw [List.length_map]; exact hi)
  refine ⟨gb, e1, e2, fun j hj => ?_⟩
  rw [e3 j hj, List.getElem_map]
theorem pf_cell {w : World} {base g n cap : Nat} {M : List Mt} (h : w.ownsRow base 91 6 (.slice (some ⟨g, 0, none⟩) n cap) n (pfs M)) {i : Nat} {y : Mt} (hy : M[i]? = some y) {j : Nat} (hj : j < 6) : w.cell? ⟨g, i * 6 + j, none⟩ = some ((pfL y).getD j undef) := by
  obtain ⟨hi, e⟩ := List.getElem?_eq_some_iff.1 hy
  have e2 := pfs_at6 M i j hi hj
  have hlt : 6 * i + j < (pfs M).length := by
    rcases Nat.lt_or_ge (6 * i + j) (pfs M).length with k | k
    · exact k
    · rw [List.getElem?_eq_none k] at e2; cases e2
  have hl6 : (pfs M).length = n * 6 := h.1
  rw [show i * 6 + j = 6 * i + j by omega, World.ownsRow.cellAt h (6 * i + j) (by omega), e2, e]
theorem loop_nums {K m l : Nat} (h1 : K < m) (h2 : m ≤ l) : ∃ p, m = p + 1 ∧ p < l ∧ K ≤ p ∧ p ≤ l ∧ ((K : Nat) : Int) < (m : Int) ∧ (m : Int) < (l : Int) + 1 ∧ m < l + 1 ∧ (m : Int) - 1 = (p : Int) := ⟨m - 1, by omega⟩
theorem meas_down (q : Nat) : (intOf (Value.int .i64 (q : Int))).toNat < (intOf (Value.int .i64 ((q + 1 : Nat) : Int))).toNat := by simp only [intOf]; omega
theorem ins_len {α : Type} (L : List α) (x : α) {k : Nat} (h : k ≤ L.length) : (L.take k ++ x :: L.drop k).length = L.length + 1 := by
  simp only [List.length_append, List.length_take, List.length_cons, List.length_drop]; omega
theorem pfs_set : ∀ (M : List Mt) (i : Nat) (y : Mt), i < M.length → ((((((pfs M).set (i * 6) (.int .i64 y.ax)).set (i * 6 + 1) (.int .i64 y.k)).set (i * 6 + 2) (.int .i64 (lowP y.k y.n).1)).set (i * 6 + 3) (.int .i64 (lowP y.k y.n).2)).set (i * 6 + 4) (.int .i64 (lowP y.g y.n).1)).set (i * 6 + 5) (.int .i64 (lowP y.g y.n).2) = pfs (M.set i y)
  | [], i, y, hi => absurd hi (by simp)
  | x :: t, 0, y, _ => rfl
  | x :: t, i + 1, y, hi => by
    have h := pfs_set t i y (by simpa using hi)
    rw [List.set_cons_succ]
    show _ = pfL x ++ pfs (t.set i y)
    rw [← h, show (i + 1) * 6 = i * 6 + 6 by omega]
    rfl
theorem pf_stored {W : World} {base g n cap : Nat} {M : List Mt} (h : W.ownsRow base 91 6 (.slice (some ⟨g, 0, none⟩) n cap) n (pfs M)) {i : Nat} (hi : i < M.length) (y : Mt) :
    ((((((W.setCell ⟨g, i * 6, none⟩ (.int .i64 y.ax)).setCell ⟨g, i * 6 + 1, none⟩ (.int .i64 y.k)).setCell ⟨g, i * 6 + 2, none⟩ (.int .i64 (lowP y.k y.n).1)).setCell ⟨g, i * 6 + 3, none⟩ (.int .i64 (lowP y.k y.n).2)).setCell ⟨g, i * 6 + 4, none⟩ (.int .i64 (lowP y.g y.n).1)).setCell ⟨g, i * 6 + 5, none⟩ (.int .i64 (lowP y.g y.n).2)).ownsRow base 91 6 (.slice (some ⟨g, 0, none⟩) n cap) n (pfs (M.set i y)) := by
  rw [← pfs_set M i y hi]
  exact ((((((h.stored _ _).1.stored _ _).1.stored _ _).1.stored _ _).1.stored _ _).1.stored _ _).1
end Go.Proofs.Ytjllkmekchmmbaa
