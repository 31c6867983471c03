/- For RelayFewer, in plain words: with fewer links or spans no word is earlier; a row without one of its links. -/
import Derived.Test.YtiboolbndfhomaaNF3
import Derived.Test.YtiboolbndfhomaaND5
import Derived.Deep.RegionHeldLaw
set_option linter.unusedVariables false
set_option linter.unusedSimpArgs false
namespace Go.Proofs.Ytiboolbndfhomaa
open Go.RowKit

/-- append to an own row, as one step of a region that draws. -/
theorem step_append_own {P : Program} {ops : Array Oper} {o : Oper} {a : Act} {w : World} {K : Act → World → Prop} {Q : Exit → Act → World → Prop} {E : Prop}
    (hg : o.guard = none) (s x : Operand) (t : TypeId) (hop : o.op = Op.call { callee := Callee.builtin Builtin.append, args := #[s, x], argTypes := #[t, t] })
    (e : TypeId) (i : TypeInfo) (z : Value) (size bytes : Nat) (h1 : P.underlying t = some (.slice e)) (h2 : P.info? e = some i) (h3 : i.zero = some z) (h4 : i.size = size) (h5 : i.bytes = bytes) (h6 : z.cells.size = size) (h7 : 0 < size)
    (base : Nat) (v : Value) (n : Nat) (olds : List Value) (hs : a.eval s = v) (hown : w.ownsRow base e size v n olds)
    (ad : Addr) (m c : Nat) (news : List Value) (hx : a.eval x = .slice (some ad) m c) (hn : news.length = m * size) (hc : ∀ j u, news[j]? = some u → w.cell? (ad.add j) = some u) (h1c : ∀ u ∈ news, u.oneCell' = true)
    (b1 : n + m ≤ maxLen) (b2 : (n + m) * bytes ≤ 140737488355328) (hb : base ≤ w.heap.size)
    (hK : ∀ v' w', w'.ownsRow base e size v' (n + m) (olds ++ news) → w.grownBy w' v.ownBlock → K (a.put o.dst v') w') :
    if Region.wanted o (yielded ops a.tmps) = true then Oper.wp P o a w K Q else E := by
  have hw : Region.wanted o (yielded ops a.tmps) = true := by simp [Region.wanted, hg]
  rw [if_pos hw]
  obtain ⟨v', w', hrun, r1, r2, _⟩ := run_append_own (P := P) w base t o.type e i z size bytes h1 h2 h3 h4 h5 h6 h7 v n olds hown ad m c news hn hc h1c b1 b2 hb
  unfold Oper.wp
  simp [execOp, hop, resolve, invoke, builtin, hs, hx, hrun, Result.andThen]
  exact hK v' w' r1 r2
theorem row_form {w : World} {base : Nat} {e : TypeId} {size : Nat} {v : Value} {n : Nat} {xs : List Value} (h : w.ownsRow base e size v n xs) : ∃ a c, v = .slice a n c := by
  rcases h.2 with ⟨h1, h2⟩ | ⟨g, cap, cur, h1, _⟩
  · exact ⟨none, 0, by rw [h1, h2]⟩
  · exact ⟨_, _, h1⟩
theorem tNeNL : (24 : TypeId) ≠ 27 := by decide
theorem own_ne {w : World} {base : Nat} {e : TypeId} {size : Nat} {v : Value} {n : Nat} {xs : List Value} (h : w.ownsRow base e size v n xs) {q : Nat} {C : Array Value} {t : TypeId} {fr : Nat × Nat} (hq : w.heap[q]? = some (Obj.cells C t fr)) (hne : t ≠ e) : some q ≠ v.ownBlock := fun he => by
  rcases h.2 with ⟨h1, _⟩ | ⟨g, cap, cur, h1, _, h3, _⟩
  · rw [h1] at he; cases he
  · rw [h1] at he
    have : q = g := by simpa [Value.ownBlock] using he
    rw [this, h3] at hq; cases hq; exact hne rfl
theorem nf_two {w w5 : World} {B N : Obj} {row : Option Nat} (hg : ((w.drew.alloc B).alloc N).grownBy w5 row) (hr : row = some w.drew.heap.size) : w5.heap[w.heap.size + 1]? = some N := by
  have e : w.drew.heap.size = w.heap.size := rfl
  rw [hg.block (w.heap.size + 1) (by simp) (by rw [hr, e]; simp)]
  have h := heap_alloc_new (w.drew.alloc B) N
  rw [show (w.drew.alloc B).heap.size = w.heap.size + 1 by simp] at h
  exact h
theorem nf_one {w w5 : World} {B N : Obj} {row : Option Nat} (hg : ((w.drew.alloc N).alloc B).grownBy w5 row) (hr : row = some (w.heap.size + 1)) : w5.heap[w.heap.size]? = some N := by
  rw [hg.block w.heap.size (by simp; omega) (by rw [hr]; simp), gNe _ _ _ (by simp)]
  exact heap_alloc_new w.drew N
theorem made_two (w : World) (N : Obj) : ((w.drew.alloc N).alloc (.cells #[] 27)).ownsRow w.heap.size 27 4 (.slice (some ⟨w.heap.size + 1, 0, none⟩) 0 0) 0 [] := by
  have h := World.ownsRow_made (base := w.heap.size) (e := 27) (size := 4) (w.drew.alloc N) #[] 0 (by simp) (by unfold maxLen; omega) rfl
  have e : (w.drew.alloc N).heap.size = w.heap.size + 1 := by simp
  rwa [e] at h
theorem row_grown {w w' : World} {base : Nat} {e : TypeId} {size : Nat} {v : Value} {n : Nat} {xs : List Value} (h : w.ownsRow base e size v n xs) {B : Nat} {a : World} (hb : Below B a w) (hB : B ≤ base) (hw : B ≤ w.heap.size) (hg : w.grownBy w' v.ownBlock) : Below B a w' :=
  hb.grown hg hw (fun k e' => by have := (h.lt k e').1; omega)
/-- The links but one. -/
def cutL (ls : List Lk) (j : Nat) : List Lk := ls.take j ++ ls.drop (j + 1)
theorem cutL_len {ls : List Lk} {j : Nat} (h : j < ls.length) : (cutL ls j).length = ls.length - 1 := by
  unfold cutL; rw [List.length_append, List.length_take, List.length_drop]; omega
theorem cutL_lt {ls : List Lk} {j i : Nat} (h : j < ls.length) (hi : i < j) : (cutL ls j).getD i .nil = ls.getD i .nil := by
  unfold cutL
  rw [List.getD_eq_getElem?_getD, List.getD_eq_getElem?_getD, List.getElem?_append_left (by rw [List.length_take]; omega), List.getElem?_take_of_lt hi]
theorem cutL_ge {ls : List Lk} {j i : Nat} (h : j < ls.length) (hi : j ≤ i) : (cutL ls j).getD i .nil = ls.getD (i + 1) .nil := by
  unfold cutL
  rw [List.getD_eq_getElem?_getD, List.getD_eq_getElem?_getD, List.getElem?_append_right (by rw [List.length_take]; omega), List.getElem?_drop, List.length_take]
  congr 2; omega
theorem cutL_mem {ls : List Lk} {j : Nat} {k : Lk} (h : k ∈ cutL ls j) : k ∈ ls := by
  unfold cutL at h
  rcases List.mem_append.1 h with h | h
  · exact List.mem_of_mem_take h
  · exact List.mem_of_mem_drop h
/-- Walks over other links that are there no later. -/
theorem no_earlier {s : Nat} {A B : List Lk} {a : Nat} {t : Int} {x y : List Int} {u v : List Sp} (hA : Inv s A a t x u) (hB : Inv s B a t y v) (sB : Shut B y) (hw : ∀ k m, Walk A a t k m → ∃ m', m' ≤ m ∧ Walk B a t k m') {k : Nat} (hk : k < s) (h0 : 0 ≤ at0 x k) : 0 ≤ at0 y k ∧ at0 y k ≤ at0 x k := by
  obtain ⟨m', h1, h2⟩ := hw k _ (hA.wk k hk h0)
  have := sB.le hB.fr h2
  omega
theorem walk_cut {ls : List Lk} {j : Nat} (hj : j < ls.length) {a : Nat} {t : Int} {k : Nat} {m : Int} (h : Walk (cutL ls j) a t k m) : Walk ls a t k m := by
  induction h with
  | start => exact .start
  | @step m d i hi hw hl ih =>
    rw [cutL_len hj] at hi
    by_cases c : i < j
    · have e : lkA (cutL ls j) i = lkA ls i := cutL_lt hj c
      have h1 := Walk.step (ls := ls) i (by omega) (by unfold frN at ih ⊢; rw [← e]; exact ih) (by rw [← e]; exact hl)
      unfold toN at h1 ⊢
      rw [e]; exact h1
    · have e : lkA (cutL ls j) i = lkA ls (i + 1) := cutL_ge hj (by omega)
      have h1 := Walk.step (ls := ls) (i + 1) (by omega) (by unfold frN at ih ⊢; rw [← e]; exact ih) (by rw [← e]; exact hl)
      unfold toN at h1 ⊢
      rw [e]; exact h1
theorem leave_shut (k : Lk) (m : Int) : leaveO (shutK k) m = none := by
  unfold leaveO shutK
  split <;> rfl
theorem lkA_less {ls : List Lk} {j i : Nat} (hj : j < ls.length) : lkA (lessL ls j) i = if i = j then shutK (lkA ls j) else lkA ls i := by
  unfold lkA lessL
  exact set_getD ls j i _ hj
theorem walk_less_cut {ls : List Lk} {j : Nat} (hj : j < ls.length) {a : Nat} {t : Int} {k : Nat} {m : Int} (h : Walk (lessL ls j) a t k m) : Walk (cutL ls j) a t k m := by
  induction h with
  | start => exact .start
  | @step m d i hi hw hl ih =>
    rw [lessL_len] at hi
    by_cases c : i = j
    · subst c
      rw [lkA_less hj, if_pos rfl, leave_shut] at hl; cases hl
    · have e0 : lkA (lessL ls j) i = lkA ls i := by rw [lkA_less hj, if_neg c]
      by_cases c2 : i < j
      · have e : lkA (cutL ls j) i = lkA (lessL ls j) i := (cutL_lt hj c2).trans e0.symm
        have h1 := Walk.step (ls := cutL ls j) i (by rw [cutL_len hj]; omega) (by unfold frN at ih ⊢; rw [e]; exact ih) (by rw [e]; exact hl)
        unfold toN at h1 ⊢
        rw [← e]; exact h1
      · have e : lkA (cutL ls j) (i - 1) = lkA (lessL ls j) i := by
          refine Eq.trans ?_ e0.symm
          have := cutL_ge (i := i - 1) hj (by omega)
          rw [show i - 1 + 1 = i by omega] at this
          exact this
        have h1 := Walk.step (ls := cutL ls j) (i - 1) (by rw [cutL_len hj]; omega) (by unfold frN at ih ⊢; rw [e]; exact ih) (by rw [e]; exact hl)
        unfold toN at h1 ⊢
        rw [← e]; exact h1
theorem walk_cut_less {ls : List Lk} {j : Nat} (hj : j < ls.length) {a : Nat} {t : Int} {k : Nat} {m : Int} (h : Walk (cutL ls j) a t k m) : Walk (lessL ls j) a t k m := by
  induction h with
  | start => exact .start
  | @step m d i hi hw hl ih =>
    rw [cutL_len hj] at hi
    by_cases c2 : i < j
    · have e : lkA (cutL ls j) i = lkA (lessL ls j) i := (cutL_lt hj c2).trans (by rw [lkA_less hj, if_neg (by omega)]; rfl)
      have h1 := Walk.step (ls := lessL ls j) i (by rw [lessL_len]; omega) (by unfold frN at ih ⊢; rw [← e]; exact ih) (by rw [← e]; exact hl)
      unfold toN at h1 ⊢
      rw [e]; exact h1
    · have e : lkA (cutL ls j) i = lkA (lessL ls j) (i + 1) := (cutL_ge hj (by omega)).trans (by rw [lkA_less hj, if_neg (by omega)]; rfl)
      have h1 := Walk.step (ls := lessL ls j) (i + 1) (by rw [lessL_len]; omega) (by unfold frN at ih ⊢; rw [← e]; exact ih) (by rw [← e]; exact hl)
      unfold toN at h1 ⊢
      rw [e]; exact h1
/-- Without a link, and with a link that is never open, the numbers are the same. -/
theorem cut_less {s : Nat} {ls : List Lk} {j : Nat} (hj : j < ls.length) {a : Nat} {t : Int} {x y : List Int} {u v : List Sp} (hA : Inv s (cutL ls j) a t x u) (sA : Shut (cutL ls j) x) (hB : Inv s (lessL ls j) a t y v) (sB : Shut (lessL ls j) y) {k : Nat} (hk : k < s) : at0 x k = at0 y k := by
  have h1 := fun h0 => no_earlier hA hB sB (fun k m h => ⟨m, Int.le_refl _, walk_cut_less hj h⟩) hk h0
  have h2 := fun h0 => no_earlier hB hA sA (fun k m h => ⟨m, Int.le_refl _, walk_less_cut hj h⟩) hk h0
  have h3 := hA.bd k hk
  have h4 := hB.bd k hk
  by_cases c : 0 ≤ at0 x k
  · have := h1 c
    have := h2 (by omega)
    omega
  · by_cases c' : 0 ≤ at0 y k
    · have := h2 c'; omega
    · omega
/-- The cells of a row of links. -/
def LinkMem (W : World) (lb lo : Nat) (ls : List Lk) : Prop := lb < W.heap.size ∧ ∀ k, k < ls.length → W.cell? ⟨lb, lo + k * 4, none⟩ = some (.int .i64 (ls.getD k .nil).fr) ∧ W.cell? ⟨lb, lo + k * 4 + 1, none⟩ = some (.int .i64 (ls.getD k .nil).to) ∧ W.cell? ⟨lb, lo + k * 4 + 2, none⟩ = some (.int .i64 (ls.getD k .nil).dl) ∧
  ∃ o, W.cell? ⟨lb, lo + k * 4 + 3, none⟩ = some o ∧ SpRow W o (ls.getD k .nil).op
theorem LinkMem.all {W : World} {lb lo : Nat} {ls : List Lk} (h : LinkMem W lb lo ls) : ∀ j, j < ls.length * 4 → ∃ u, W.cell? ⟨lb, lo + j, none⟩ = some u ∧ u.oneCell' = true := fun j hj => by
  obtain ⟨c0, c1, c2, o, c3, hs⟩ := h.2 (j / 4) (by omega)
  obtain ⟨sa, sc, rfl, _⟩ := hs.form
  rcases (by omega : j = j / 4 * 4 ∨ j = j / 4 * 4 + 1 ∨ j = j / 4 * 4 + 2 ∨ j = j / 4 * 4 + 3) with h | h | h | h
  · exact ⟨_, by rw [h]; exact c0, rfl⟩
  · exact ⟨_, by rw [h, ← Nat.add_assoc]; exact c1, rfl⟩
  · exact ⟨_, by rw [h, ← Nat.add_assoc]; exact c2, rfl⟩
  · exact ⟨_, by rw [h, ← Nat.add_assoc]; exact c3, rfl⟩
theorem LinkMem.raw {W W' : World} {lb lo : Nat} {ls : List Lk} (h : LinkMem W lb lo ls) (hb : Below W.heap.size W W') {p n : Nat} (hn : (p + n) ≤ ls.length) : (∀ i u, (rawL W lb (lo + p * 4) n)[i]? = some u → W'.cell? ((⟨lb, lo + p * 4, none⟩ : Addr).add i) = some u) ∧ ∀ u ∈ rawL W lb (lo + p * 4) n, u.oneCell' = true := by
  constructor
  · intro i u hi
    have hin : i < n * 4 := by
      have := (List.getElem?_eq_some_iff.1 hi).1
      rwa [rawL_len] at this
    rw [rawL_at _ _ _ _ _ hin] at hi
    obtain ⟨x, hx, _⟩ := h.all (p * 4 + i) (by omega)
    rw [← Nat.add_assoc] at hx
    rw [hx] at hi
    rw [addr_add, hb.cell (p := ⟨lb, _, none⟩) h.1, hx]
    exact hi
  · intro u hu
    obtain ⟨i, hi, rfl⟩ := List.mem_map.1 hu
    obtain ⟨x, hx, h1⟩ := h.all (p * 4 + i) (by have := List.mem_range.1 hi; omega)
    rw [← Nat.add_assoc] at hx
    rw [hx]; exact h1
theorem cut_at {W : World} {lb lo j n i r : Nat} (hr : r < 4) (hi : i < j + n) : (rawL W lb lo j ++ rawL W lb (lo + (j + 1) * 4) n)[i * 4 + r]? = some ((W.cell? ⟨lb, lo + (if i < j then i else i + 1) * 4 + r, none⟩).getD undef) := by
  by_cases c : i < j
  · rw [if_pos c, List.getElem?_append_left (by rw [rawL_len]; omega), rawL_at _ _ _ _ _ (by omega), Nat.add_assoc]
  · rw [if_neg c, List.getElem?_append_right (by rw [rawL_len]; omega), rawL_len, rawL_at _ _ _ _ _ (by omega), show lo + (j + 1) * 4 + (i * 4 + r - j * 4) = lo + (i + 1) * 4 + r by omega]
theorem cut_row {W WW : World} {lb lo j base : Nat} {ls : List Lk} {v : Value} (h : LinkMem W lb lo ls) (hj : j < ls.length) (hb : Below W.heap.size W WW) (hop : ∀ k ∈ ls, k.op.length ≤ 9223372036854775807) (h40 : ls.length ≤ 40)
    (hrow : WW.ownsRow base 27 4 v (j + (ls.length - (j + 1))) (rawL W lb lo j ++ rawL W lb (lo + (j + 1) * 4) (ls.length - (j + 1)))) : NRow WW v (cutL ls j) ∧ j + (ls.length - (j + 1)) = (cutL ls j).length := by
  have hlen := cutL_len hj
  refine ⟨⟨?_, fun k hk => hop k (cutL_mem hk), by rw [hlen]; omega⟩, by rw [hlen]; omega⟩
  rcases hrow.2 with ⟨h1, h2⟩ | ⟨g, cap, cur, h1, h2, h3, h4, h5, h6, h7⟩
  · exact .inl ⟨_, _, h1, List.length_eq_zero_iff.1 (by rw [hlen]; omega)⟩
  · refine .inr ⟨g, 0, cap, by rw [h1, hlen]; congr 1; omega, (Array.getElem?_eq_some_iff.1 h3).1, fun i hi => ?_⟩
    rw [hlen] at hi
    have e : (cutL ls j).getD i .nil = ls.getD (if i < j then i else i + 1) .nil := by
      by_cases c : i < j
      · rw [if_pos c]; exact cutL_lt hj c
      · rw [if_neg c]; exact cutL_ge hj (by omega)
    obtain ⟨q, hq⟩ : ∃ q, (if i < j then i else i + 1) = q := ⟨_, rfl⟩
    have hql : q < ls.length := by rw [← hq]; split <;> omega
    obtain ⟨c0, c1, c2, o, c3, hs⟩ := h.2 q hql
    have at' : ∀ r, r < 4 → cur[i * 4 + r]? = some ((W.cell? ⟨lb, lo + q * 4 + r, none⟩).getD undef) := fun r hr => by
      have := cut_at (W := W) (lb := lb) (lo := lo) (j := j) (n := ls.length - (j + 1)) (i := i) hr (by omega)
      rw [← h7, List.getElem?_take_of_lt (by omega), Array.getElem?_toList, hq] at this
      exact this
    have a0 := at' 0 (by omega)
    have a1 := at' 1 (by omega)
    have a2 := at' 2 (by omega)
    have a3 := at' 3 (by omega)
    rw [Nat.add_zero, Nat.add_zero, c0] at a0
    rw [c1] at a1
    rw [c2] at a2
    rw [c3] at a3
    rw [e, hq, Nat.zero_add, cellH h3, cellH h3, cellH h3, cellH h3]
    exact ⟨a0, a1, a2, o, a3, hs.keep hb⟩
/-- With spans closed no word is anywhere earlier. -/
theorem leaveL_parts (c : Sp) (hc : c.1 ≤ c.2) : ∀ (l : List Sp) (e d x v : Int), okS e l = true → 0 ≤ d → leaveL (partsL l c) d x = some v → ∃ u, leaveL l d x = some u ∧ u ≤ v
  | [], _, _, _, _, _, _, h => by cases h
  | s :: l, e, d, x, v, ho, hd, h => by
    have ho' := ho
    simp only [okS, Bool.and_eq_true, decide_eq_true_eq] at ho'
    obtain ⟨⟨⟨h1, h2⟩, h3⟩, h4⟩ := ho'
    show ∃ u, (if max s.1 x ≤ s.2 - d then some (max s.1 x) else leaveL l d x) = some u ∧ u ≤ v
    have hp : partsL (s :: l) c = partS c s ++ partsL l c := by unfold partsL; rw [List.flatMap_cons]
    rw [hp] at h
    have rest : leaveL (partsL l c) d x = some v → ∃ u, (if max s.1 x ≤ s.2 - d then some (max s.1 x) else leaveL l d x) = some u ∧ u ≤ v := fun h => by
      obtain ⟨u, u1, u2⟩ := leaveL_parts c hc l s.2 d x v h4 hd h
      split
      · rename_i hm
        have := leaveL_bd l s.2 d x u h4 u1
        exact ⟨_, rfl, by omega⟩
      · exact ⟨u, u1, u2⟩
    unfold partS at h
    by_cases a1 : s.1 < c.1
    · rw [if_pos a1] at h
      by_cases a2 : c.2 < s.2
      · rw [if_pos a2] at h
        simp only [List.cons_append, List.nil_append, leaveL] at h
        by_cases b1 : max s.1 x ≤ min s.2 (c.1 - 1) - d
        · rw [if_pos b1] at h; cases h
          rw [if_pos (by omega)]
          exact ⟨_, rfl, by omega⟩
        · rw [if_neg b1] at h
          by_cases b2 : max (max s.1 (c.2 + 1)) x ≤ s.2 - d
          · rw [if_pos b2] at h; cases h
            rw [if_pos (by omega)]
            exact ⟨_, rfl, by omega⟩
          · rw [if_neg b2] at h
            exact rest h
      · rw [if_neg a2] at h
        simp only [List.cons_append, List.nil_append, leaveL] at h
        by_cases b1 : max s.1 x ≤ min s.2 (c.1 - 1) - d
        · rw [if_pos b1] at h; cases h
          rw [if_pos (by omega)]
          exact ⟨_, rfl, by omega⟩
        · rw [if_neg b1] at h
          exact rest h
    · rw [if_neg a1] at h
      by_cases a2 : c.2 < s.2
      · rw [if_pos a2] at h
        simp only [List.cons_append, List.nil_append, leaveL] at h
        by_cases b2 : max (max s.1 (c.2 + 1)) x ≤ s.2 - d
        · rw [if_pos b2] at h; cases h
          rw [if_pos (by omega)]
          exact ⟨_, rfl, by omega⟩
        · rw [if_neg b2] at h
          exact rest h
      · rw [if_neg a2] at h
        exact rest h
theorem lkA_close {ls : List Lk} {c : Sp} {i : Nat} (h : i < ls.length) : lkA (closeL ls c) i = closeK c (lkA ls i) := closeL_at h
theorem walk_close {ls : List Lk} {c : Sp} (hc : c.1 ≤ c.2) (hks : ∀ k ∈ ls, linkE k = 0) {a : Nat} {t : Int} {k : Nat} {m : Int} (h : Walk (closeL ls c) a t k m) : ∃ m', m' ≤ m ∧ Walk ls a t k m' := by
  induction h with
  | start => exact ⟨t, Int.le_refl _, .start⟩
  | @step m d i hi hw hl ih =>
    rw [closeL_len] at hi
    obtain ⟨m', h1, h2⟩ := ih
    have e := lkA_close (c := c) hi
    have hE := hks _ (lk_mem hi)
    obtain ⟨d1, d2, d3, d4⟩ := linkE_ok hE
    have hle : leaveL (partsL (lkA ls i).op c) (lkA ls i).dl m = some d := by
      rw [e] at hl
      unfold leaveO at hl
      split at hl
      · exact hl
      · cases hl
    obtain ⟨u, u1, u2⟩ := leaveL_parts c hc (lkA ls i).op (-1) (lkA ls i).dl m d d4 (by show 0 ≤ (ls.getD i .nil).dl; omega) hle
    have hu : leaveO (lkA ls i) m = some u := by unfold leaveO; rw [if_pos (show linkE (lkA ls i) = 0 from hE)]; exact u1
    obtain ⟨u', v1, v2⟩ := leaveO_mono h1 hu
    have e1 : frN (closeL ls c) i = frN ls i := by unfold frN; rw [e]; rfl
    have e2 : toN (closeL ls c) i = toN ls i := by unfold toN; rw [e]; rfl
    have e3 : (lkA (closeL ls c) i).dl = (lkA ls i).dl := by rw [e]; rfl
    rw [e1] at h2
    rw [e2, e3]
    exact ⟨_, by omega, .step i hi h2 v1⟩
theorem netL_all {st : Int} : ∀ {l : List Lk}, (∀ k ∈ l, endsB st k = true ∧ linkE k = 0) → netL st l = 0
  | [], _ => rfl
  | k :: l, h => by
    obtain ⟨h1, h2⟩ := h k (by simp)
    unfold netL
    rw [if_pos h1, if_pos h2]
    exact netL_all (fun x hx => h x (by simp [hx]))
theorem netE_all {st : Int} {l : List Lk} (h1 : 1 ≤ st) (h2 : st ≤ 10) (h3 : l.length ≤ 40) (h : ∀ k ∈ l, endsB st k = true ∧ linkE k = 0) : netE st l = 0 := by
  unfold netE
  rw [if_neg (by omega), if_neg (by omega)]
  exact netL_all h
theorem okS_parts (c : Sp) (hc : c.1 ≤ c.2) : ∀ (l : List Sp) (e : Int), -1 ≤ e → okS e l = true → okS e (partsL l c) = true
  | [], _, _, _ => rfl
  | s :: l, e, he, ho => by
    have ho' := ho
    simp only [okS, Bool.and_eq_true, decide_eq_true_eq] at ho'
    obtain ⟨⟨⟨h1, h2⟩, h3⟩, h4⟩ := ho'
    have ih := okS_parts c hc l s.2 (by omega) h4
    have up : ∀ f, f ≤ s.2 → okS f (partsL l c) = true := fun f hf => by
      cases hl : partsL l c with
      | nil => rfl
      | cons y r =>
        rw [hl] at ih
        simp only [okS, Bool.and_eq_true, decide_eq_true_eq] at ih ⊢
        obtain ⟨⟨⟨g1, g2⟩, g3⟩, g4⟩ := ih
        exact ⟨⟨⟨by omega, g2⟩, g3⟩, g4⟩
    have hp : partsL (s :: l) c = partS c s ++ partsL l c := by unfold partsL; rw [List.flatMap_cons]
    rw [hp]
    unfold partS
    by_cases a1 : s.1 < c.1
    · by_cases a2 : c.2 < s.2
      · rw [if_pos a1, if_pos a2]
        simp only [List.cons_append, List.nil_append, okS, Bool.and_eq_true, decide_eq_true_eq]
        exact ⟨⟨⟨by omega, by omega⟩, by omega⟩, ⟨⟨by omega, by omega⟩, by omega⟩, up _ (Int.le_refl _)⟩
      · rw [if_pos a1, if_neg a2]
        simp only [List.cons_append, List.nil_append, okS, Bool.and_eq_true, decide_eq_true_eq]
        exact ⟨⟨⟨by omega, by omega⟩, by omega⟩, up _ (by omega)⟩
    · by_cases a2 : c.2 < s.2
      · rw [if_neg a1, if_pos a2]
        simp only [List.cons_append, List.nil_append, okS, Bool.and_eq_true, decide_eq_true_eq]
        exact ⟨⟨⟨by omega, by omega⟩, by omega⟩, up _ (Int.le_refl _)⟩
      · rw [if_neg a1, if_neg a2]
        simp only [List.nil_append]
        exact up _ (by omega)
/-- A net whose spans were closed is a net. -/
theorem close_ok {st : Int} {ls : List Lk} {c : Sp} (hE : netE st ls = 0) (hC : closedE st ls c = 0) : c.1 ≤ c.2 ∧ netE st (closeL ls c) = 0 := by
  obtain ⟨s1, s10, l40, hks⟩ := netE_ok hE
  unfold closedE at hC
  rw [if_pos hE] at hC
  split at hC
  · cases hC
  · rename_i h12
    split at hC
    · cases hC
    · rename_i hw
      have hc : c.1 ≤ c.2 := by omega
      refine ⟨hc, netE_all s1 s10 (by rw [closeL_len]; exact l40) (fun k hk => ?_)⟩
      unfold closeL at hk
      obtain ⟨y, hy, rfl⟩ := List.mem_map.1 hk
      obtain ⟨k1, k2⟩ := hks y hy
      obtain ⟨d1, d2, d3, d4⟩ := linkE_ok k2
      refine ⟨k1, ?_⟩
      have hlen : ¬ 12 < (partsL y.op c).length := fun h => hw (List.any_eq_true.2 ⟨y, hy, decide_eq_true h⟩)
      have hok := okS_parts c hc y.op (-1) (by omega) d4
      show (if y.dl < 1 ∨ 1440 < y.dl then (1 : Int) else if 12 < (partsL y.op c).length then 2 else if okS (-1) (partsL y.op c) = true then 0 else 1) = 0
      rw [if_neg (by omega), if_neg hlen, if_pos hok]
end Go.Proofs.Ytiboolbndfhomaa
