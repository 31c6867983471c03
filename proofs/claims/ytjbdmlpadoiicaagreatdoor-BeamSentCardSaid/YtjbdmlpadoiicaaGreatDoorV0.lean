/- The reference's table in memory: a slice of slices. -/
import Derived.Test.YtjbdmlpadoiicaaGreatDoorS9
import Derived.Test.YtjbdmlpadoiicaaGreatDoorC1
set_option linter.unusedVariables false
set_option linter.unusedSimpArgs false
namespace Go.Proofs.YtjbdmlpadoiicaaGreatDoor
open Go.RowKit Go.Shelf

/-- The table lies in block tb; the row a, for a from lo on, in block rb a; what is known of it (K) is the reference's number. -/
structure Tab (w : World) (tb : Nat) (s r : List UInt8) (lo : Nat) (K : Nat → Nat → Prop) (rb : Nat → Nat) : Prop where
  outer : ∃ C, w.heap[tb]? = some (.cells C 48 (0, 0)) ∧ C.size = s.length + 1 ∧ ∀ a, lo ≤ a → a ≤ s.length → C[a]? = some (.slice (some ⟨rb a, 0, none⟩) (r.length + 1) (r.length + 1))
  rows : ∀ a, lo ≤ a → a ≤ s.length → tb < rb a ∧ (∀ a', a < a' → a' ≤ s.length → rb a' < rb a) ∧ ∃ D, w.heap[rb a]? = some (.cells D 3 (0, 0)) ∧ D.size = r.length + 1 ∧ ∀ b, b ≤ r.length → ∃ x : Int, D[b]? = some (.int .i64 x) ∧ (K a b → x = eT s r a b)
theorem Tab.row {w : World} {tb : Nat} {s r : List UInt8} {lo : Nat} {K : Nat → Nat → Prop} {rb : Nat → Nat} (h : Tab w tb s r lo K rb) {a : Nat} (h1 : lo ≤ a) (h2 : a ≤ s.length) :
    w.cell? ⟨tb, a, none⟩ = some (.slice (some ⟨rb a, 0, none⟩) (r.length + 1) (r.length + 1)) := by
  obtain ⟨C, hC, _, hc⟩ := h.outer
  rw [cell_of_heap hC]; exact hc a h1 h2
theorem Tab.spot {w : World} {tb : Nat} {s r : List UInt8} {lo : Nat} {K : Nat → Nat → Prop} {rb : Nat → Nat} (h : Tab w tb s r lo K rb) {a b : Nat} (h1 : lo ≤ a) (h2 : a ≤ s.length) (h3 : b ≤ r.length) :
    (∃ x : Int, w.cell? ⟨rb a, b, none⟩ = some (.int .i64 x) ∧ (K a b → x = eT s r a b)) ∧ w.frozen? ⟨rb a, b, none⟩ = false := by
  obtain ⟨_, _, D, hD, _, hx⟩ := h.rows a h1 h2
  obtain ⟨x, e, k⟩ := hx b h3
  exact ⟨⟨x, by rw [cell_of_heap hD]; exact e, k⟩, free_of_heap hD b⟩
theorem Tab.drewN {w : World} {tb : Nat} {s r : List UInt8} {lo : Nat} {K : Nat → Nat → Prop} {rb : Nat → Nat} (h : Tab w tb s r lo K rb) (n : Nat) : Tab (w.drewN n) tb s r lo K rb := by
  have e : (w.drewN n).heap = w.heap := by simp
  exact ⟨by rw [e]; exact h.outer, by rw [e]; exact h.rows⟩
theorem Tab.weak {w : World} {tb : Nat} {s r : List UInt8} {lo : Nat} {K K' : Nat → Nat → Prop} {rb : Nat → Nat} (h : Tab w tb s r lo K rb) (hk : ∀ a b, K' a b → K a b) : Tab w tb s r lo K' rb := by
  refine ⟨h.outer, fun a h1 h2 => ?_⟩
  obtain ⟨g1, g2, D, g3, g4, g5⟩ := h.rows a h1 h2
  exact ⟨g1, g2, D, g3, g4, fun b hb => by obtain ⟨x, e, k⟩ := g5 b hb; exact ⟨x, e, fun c => k (hk _ _ c)⟩⟩
/-- A number is written. -/
theorem Tab.put {w : World} {tb : Nat} {s r : List UInt8} {lo : Nat} {K K' : Nat → Nat → Prop} {rb : Nat → Nat} (h : Tab w tb s r lo K rb) {q k : Nat} (h1 : lo ≤ q) (h2 : q ≤ s.length) (h3 : k ≤ r.length) (x : Int)
    (hk : ∀ a b, K' a b → K a b ∨ (a = q ∧ b = k)) (hx : K' q k → x = eT s r q k) : Tab (w.setCell ⟨rb q, k, none⟩ (.int .i64 x)) tb s r lo K' rb := by
  have hq := h.rows q h1 h2
  refine ⟨?_, fun a g1 g2 => ?_⟩
  · obtain ⟨C, hC, hs, hc⟩ := h.outer
    exact ⟨C, (Below.heap_setCell _ _ _ _ (show tb ≠ rb q by omega)).trans hC, hs, hc⟩
  · obtain ⟨e1, e2, D, e3, e4, e5⟩ := h.rows a g1 g2
    refine ⟨e1, e2, ?_⟩
    by_cases c : a = q
    · subst c
      refine ⟨_, heap_setCell_same e3 k _, by simpa using e4, fun b hb => ?_⟩
      by_cases d : b = k
      · subst d
        exact ⟨x, by rw [Array.getElem?_setIfInBounds_self_of_lt (by omega)], hx⟩
      · obtain ⟨y, f1, f2⟩ := e5 b hb
        refine ⟨y, by rw [Array.getElem?_setIfInBounds_ne (by omega)]; exact f1, fun hK => f2 ?_⟩
        rcases hk _ _ hK with g | g
        · exact g
        · exact absurd g.2 d
    · have hne : rb a ≠ rb q := by
        rcases Nat.lt_or_gt_of_ne c with g | g
        · have := e2 q g h2; omega
        · have := hq.2.1 a g g2; omega
      refine ⟨D, (Below.heap_setCell _ _ _ _ hne).trans e3, e4, fun b hb => ?_⟩
      obtain ⟨y, f1, f2⟩ := e5 b hb
      refine ⟨y, f1, fun hK => f2 ?_⟩
      rcases hk _ _ hK with g | g
      · exact g
      · exact absurd g.1 c
/-- A new row is laid. -/
theorem Tab.new {w w1 : World} {tb : Nat} {s r : List UInt8} {q : Nat} {K : Nat → Nat → Prop} {rb : Nat → Nat} (h : Tab w tb s r (q + 1) K rb) (hq : q ≤ s.length) (htb : tb < w.heap.size) (hrb : ∀ a, q + 1 ≤ a → a ≤ s.length → rb a < w.heap.size)
    (hg : w.grownBy w1 none) (hrow : w1.ownsRow w.heap.size 3 1 (.slice (some ⟨w.heap.size, 0, none⟩) (r.length + 1) (r.length + 1)) (r.length + 1) (List.replicate (r.length + 1) (.int .i64 0))) (hK : ∀ a b, K a b → q + 1 ≤ a) :
    Tab (w1.setCell ⟨tb, q, none⟩ (.slice (some ⟨w.heap.size, 0, none⟩) (r.length + 1) (r.length + 1))) tb s r q K (fun a => if a = q then w.heap.size else rb a) := by
  obtain ⟨C, hC, hs, hc⟩ := h.outer
  have hbl : ∀ k, k < w.heap.size → w1.heap[k]? = w.heap[k]? := fun k hk => hg.block k hk (by simp)
  refine ⟨⟨_, heap_setCell_same ((hbl tb htb).trans hC) q _, by simpa using hs, fun a g1 g2 => ?_⟩, fun a g1 g2 => ?_⟩
  · by_cases c : a = q
    · subst c; rw [Array.getElem?_setIfInBounds_self_of_lt (by omega), if_pos rfl]
    · rw [Array.getElem?_setIfInBounds_ne (by omega), if_neg c]; exact hc a (by omega) g2
  · by_cases c : a = q
    · subst c
      simp only [if_true]
      refine ⟨htb, fun a' g3 g4 => by rw [if_neg (by omega)]; exact hrb a' (by omega) g4, ?_⟩
      rcases hrow.2 with ⟨h0, _⟩ | ⟨g, cap, cur, hv, _, hgb, hn, _, hcs, hxs⟩
      · cases h0
      · cases hv
        refine ⟨cur, (Below.heap_setCell _ _ _ _ (by show w.heap.size ≠ tb; omega)).trans hgb, by omega, fun b hb => ?_⟩
        rw [Nat.mul_one] at hxs hcs
        have e1 : cur.toList = List.replicate (r.length + 1) (.int .i64 0) := by rw [← hxs, List.take_of_length_le (by simp; omega)]
        refine ⟨0, ?_, fun k => by have := hK _ _ k; omega⟩
        rw [← Array.getElem?_toList, e1, List.getElem?_replicate, if_pos (by omega)]
    · obtain ⟨e1, e2, D, e3, e4, e5⟩ := h.rows a (by omega) g2
      rw [if_neg c]
      refine ⟨e1, fun a' g3 g4 => by rw [if_neg (by omega)]; exact e2 a' g3 g4, D, ?_, e4, e5⟩
      exact (Below.heap_setCell _ _ _ _ (by show rb a ≠ tb; omega)).trans ((hbl _ (hrb a (by omega) g2)).trans e3)
end Go.Proofs.YtjbdmlpadoiicaaGreatDoor
