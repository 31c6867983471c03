/- What lies where in the loop of Closed of package relay. -/
import Derived.Test.YtiboolbndfhomaaNF1
import Derived.Test.YtiboolbndfhomaaNC1
import Derived.Maps.OwnIn
set_option linter.unusedVariables false
set_option linter.unusedSimpArgs false
namespace Go.Proofs.Ytiboolbndfhomaa
open Go.RowKit

theorem tNeSL : (52 : TypeId) ≠ 27 := by decide
theorem tNeSN : (52 : TypeId) ≠ 24 := by decide
theorem set_pair5 {w : World} {R : Nat} {a b u v : Value} {t : TypeId} (hg : w.heap[R]? = some (.cells #[a, b] t (0, 0))) : ((w.setCell ⟨R, 0, none⟩ u).setCell ⟨R, 1, none⟩ v).heap[R]? = some (.cells #[u, v] t (0, 0)) := by
  have h1 := heap_same hg 0 u
  rw [heap_same h1 1 v]; rfl
/-- A slice of spans whose block holds spans alone. -/
def OpenRow (W : World) (o : Value) (l : List Sp) : Prop := (o = .slice none 0 0 ∧ l = []) ∨
  ∃ g cap C fr, o = .slice (some ⟨g, 0, none⟩) l.length cap ∧ W.heap[g]? = some (.cells C 52 fr) ∧ ∀ j, j < l.length → C[j * 2]? = some (.int .i64 (l.getD j (0, 0)).1) ∧ C[j * 2 + 1]? = some (.int .i64 (l.getD j (0, 0)).2)
theorem OpenRow.keep {A B : World} {o : Value} {l : List Sp} (h : OpenRow A o l) (k : ∀ (b : Nat) (C : Array Value) (fr : Nat × Nat), A.heap[b]? = some (Obj.cells C 52 fr) → B.heap[b]? = some (Obj.cells C 52 fr)) : OpenRow B o l := by
  rcases h with h | ⟨g, cap, C, fr, h1, h2, h3⟩
  · exact .inl h
  · exact .inr ⟨g, cap, C, fr, h1, k _ _ _ h2, h3⟩
theorem OpenRow.sp {W : World} {o : Value} {l : List Sp} (h : OpenRow W o l) : SpRow W o l := by
  rcases h with ⟨h1, h2⟩ | ⟨g, cap, C, fr, rfl, h2, h3⟩
  · exact .inl ⟨_, _, h1, h2⟩
  · refine .inr ⟨g, 0, cap, rfl, (Array.getElem?_eq_some_iff.1 h2).1, fun i hi => ?_⟩
    rw [Nat.zero_add, cellH h2, cellH h2]
    exact h3 i hi
theorem OpenRow.one {W : World} {o : Value} {l : List Sp} (h : OpenRow W o l) : o.oneCell' = true ∧ ∃ sa cap, o = .slice sa l.length cap := by
  rcases h with ⟨h1, h2⟩ | ⟨g, cap, C, fr, rfl, h2, h3⟩
  · subst h1; subst h2; exact ⟨rfl, _, _, rfl⟩
  · exact ⟨rfl, _, _, rfl⟩
theorem OpenRow.of_own {W : World} {base : Nat} {v : Value} {l : List Sp} (h : W.ownsRow base 52 2 v l.length (hopsL l)) : OpenRow W v l := by
  rcases h.2 with ⟨h1, h2⟩ | ⟨g, cap, cur, h1, h2, h3, h4, h5, h6, h7⟩
  · exact .inl ⟨h1, List.length_eq_zero_iff.1 h2⟩
  · refine .inr ⟨g, cap, cur, _, h1, h3, fun j hj => ?_⟩
    obtain ⟨q1, q2⟩ := hopsL_at l j hj
    rw [← h7] at q1 q2
    rw [List.getElem?_take_of_lt (by omega), Array.getElem?_toList] at q1 q2
    exact ⟨q1, q2⟩
/-- The cells of links whose spans lie in blocks of spans. -/
def LinkCells (W : World) (xs : List Value) (ks : List Lk) : Prop := ∀ i, i < ks.length → xs[i * 4]? = some (.int .i64 (ks.getD i .nil).fr) ∧ xs[i * 4 + 1]? = some (.int .i64 (ks.getD i .nil).to) ∧ xs[i * 4 + 2]? = some (.int .i64 (ks.getD i .nil).dl) ∧ ∃ o, xs[i * 4 + 3]? = some o ∧ OpenRow W o (ks.getD i .nil).op
theorem LinkCells.keep {A B : World} {xs : List Value} {ks : List Lk} (h : LinkCells A xs ks) (k : ∀ (b : Nat) (C : Array Value) (fr : Nat × Nat), A.heap[b]? = some (Obj.cells C 52 fr) → B.heap[b]? = some (Obj.cells C 52 fr)) : LinkCells B xs ks := fun i hi => by
  obtain ⟨h1, h2, h3, o, h4, h5⟩ := h i hi
  exact ⟨h1, h2, h3, o, h4, h5.keep k⟩
theorem LinkCells.snoc {W : World} {xs : List Value} {ks : List Lk} {k : Lk} {o : Value} (h : LinkCells W xs ks) (hl : xs.length = ks.length * 4) (ho : OpenRow W o k.op) : LinkCells W (xs ++ [.int .i64 k.fr, .int .i64 k.to, .int .i64 k.dl, o]) (ks ++ [k]) := fun i hi => by
  simp only [List.length_append, List.length_cons, List.length_nil] at hi
  by_cases c : i < ks.length
  · obtain ⟨h1, h2, h3, o', h4, h5⟩ := h i c
    have e : (ks ++ [k]).getD i .nil = ks.getD i .nil := by
      rw [List.getD_eq_getElem?_getD, List.getD_eq_getElem?_getD, List.getElem?_append_left c]
    rw [e, List.getElem?_append_left (by omega), List.getElem?_append_left (by omega), List.getElem?_append_left (by omega), List.getElem?_append_left (by omega)]
    exact ⟨h1, h2, h3, o', h4, h5⟩
  · obtain rfl : i = ks.length := by omega
    have e : (ks ++ [k]).getD ks.length .nil = k := by
      rw [List.getD_eq_getElem?_getD, List.getElem?_append_right (Nat.le_refl _)]; simp
    rw [e, List.getElem?_append_right (by omega), List.getElem?_append_right (by omega), List.getElem?_append_right (by omega), List.getElem?_append_right (by omega), hl]
    refine ⟨by simp, by simp, by simp, o, by simp, ho⟩
theorem NRow.of_links {W : World} {base : Nat} {u : Value} {xs : List Value} {ks : List Lk} (h : W.ownsRow base 27 4 u ks.length xs) (hc : LinkCells W xs ks) (hl : ∀ k ∈ ks, k.op.length ≤ 9223372036854775807) (h40 : ks.length ≤ 40) : NRow W u ks := by
  refine ⟨?_, hl, by omega⟩
  rcases h.2 with ⟨h1, h2⟩ | ⟨g, cap, cur, h1, h2, h3, h4, h5, h6, h7⟩
  · exact .inl ⟨_, _, by rw [h1], List.length_eq_zero_iff.1 h2⟩
  · refine .inr ⟨g, 0, cap, h1, (Array.getElem?_eq_some_iff.1 h3).1, fun i hi => ?_⟩
    obtain ⟨c0, c1, c2, o, c3, ho⟩ := hc i hi
    rw [← h7] at c0 c1 c2 c3
    rw [List.getElem?_take_of_lt (by omega), Array.getElem?_toList] at c0 c1 c2 c3
    rw [Nat.zero_add, cellH h3, cellH h3, cellH h3, cellH h3]
    exact ⟨c0, c1, c2, o, c3, ho.sp⟩
/-- What lies where while Closed goes on: the span, the result's cell, the net that grows in the box X. -/
structure ClS (w W : World) (X : Nat) (st : Int) (c : Sp) (u : Value) (xs : List Value) (ks : List Lk) : Prop where
  below : Below w.heap.size w W
  sb : W.heap[w.heap.size + 1]? = some (.cells #[.int .i64 c.1, .int .i64 c.2] 52 (0, 0))
  rb : W.heap[w.heap.size + 2]? = some (.cells #[.int .i64 0, .slice none 0 0] 24 (0, 0))
  far : w.heap.size + 2 < X ∧ X < W.heap.size
  ob : W.heap[X]? = some (.cells #[.int .i64 st, u] 24 (0, 0))
  row : W.ownsRow (X + 1) 27 4 u ks.length xs
  lks : LinkCells W xs ks
theorem ClS.keep {w W W' : World} {X : Nat} {st : Int} {c : Sp} {u : Value} {xs : List Value} {ks : List Lk} (h : ClS w W X st c u xs ks) (hb : Below W.heap.size W W') : ClS w W' X st c u xs ks := by
  obtain ⟨l1, l2⟩ := h.far
  exact ⟨h.below.trans (hb.mono h.below.size), (hb.block _ (by omega)).trans h.sb, (hb.block _ (by omega)).trans h.rb, ⟨l1, Nat.lt_of_lt_of_le l2 hb.size⟩, (hb.block _ l2).trans h.ob, row_below h.row hb,
    h.lks.keep (fun b C fr hh => (hb.block b (Array.getElem?_eq_some_iff.1 hh).1).trans hh)⟩
theorem ClS.append {w W w1 : World} {X : Nat} {st : Int} {c : Sp} {u v' : Value} {xs : List Value} {ks : List Lk} {k : Lk} {o : Value} {tmp : Obj} (h : ClS w W X st c u xs ks) (ho : OpenRow W o k.op)
    (hown' : w1.ownsRow (X + 1) 27 4 v' (ks.length + 1) (xs ++ [.int .i64 k.fr, .int .i64 k.to, .int .i64 k.dl, o])) (hgrow : (W.alloc tmp).grownBy w1 u.ownBlock) :
    ClS w (w1.setCell ⟨X, 1, none⟩ v') X st c v' (xs ++ [.int .i64 k.fr, .int .i64 k.to, .int .i64 k.dl, o]) (ks ++ [k]) ∧ (∀ (D : Nat) (ob : Obj), W.heap[D]? = some ob → ob.isCells = false → (w1.setCell ⟨X, 1, none⟩ v').heap[D]? = some ob) ∧
      w1.heap[X]? = some (.cells #[.int .i64 st, u] 24 (0, 0)) := by
  obtain ⟨l1, l2⟩ := h.far
  have hown : ∀ g, u.ownBlock = some g → X + 1 ≤ g ∧ ∃ cur, W.heap[g]? = some (.cells cur 27 (0, 0)) := fun g hg => by
    rcases h.row.2 with ⟨h1, _⟩ | ⟨g', cap, cur, h1, h2, h3, _⟩
    · rw [h1] at hg; cases hg
    · rw [h1] at hg
      obtain rfl : g' = g := by simpa [Value.ownBlock] using hg
      exact ⟨h2, cur, h3⟩
  have hlow : ∀ b, b < X + 1 → w1.heap[b]? = W.heap[b]? := fun b hb => by
    rw [hgrow.block b (by simp; omega) (fun e => by have := (hown b e.symm).1; omega)]
    exact Below.heap_alloc _ _ _ (by omega)
  have hX := (hlow X (by omega)).trans h.ob
  have hsp : ∀ (b : Nat) (C : Array Value) (fr : Nat × Nat), W.heap[b]? = some (Obj.cells C 52 fr) → (w1.setCell ⟨X, 1, none⟩ v').heap[b]? = some (Obj.cells C 52 fr) := fun b C fr hh => by
    have hbs := (Array.getElem?_eq_some_iff.1 hh).1
    rw [heap_other _ _ _ _ _ (fun e => by rw [e, h.ob] at hh; cases hh),
      hgrow.block b (by simp; omega) (fun e => by obtain ⟨_, cur, hc⟩ := hown b e.symm; rw [hc] at hh; cases hh), Below.heap_alloc _ _ _ hbs]
    exact hh
  refine ⟨⟨?_, ?_, ?_, ⟨l1, ?_⟩, ?_, ?_, ?_⟩, ?_, hX⟩
  · have h1 := ((Below.refl w.heap.size W).alloc (by omega) tmp).grown hgrow (by simp; omega) (fun g e => by have := (hown g e).1; omega)
    exact h.below.trans (h1.setCell (p := ⟨X, 1, none⟩) (by simp only; omega) v')
  · rw [heap_other _ _ _ _ _ (by omega), hlow _ (by omega)]; exact h.sb
  · rw [heap_other _ _ _ _ _ (by omega), hlow _ (by omega)]; exact h.rb
  · rw [size_set]; have := hgrow.size; simp at this; omega
  · rw [heap_same hX]; rfl
  · rw [List.length_append]; exact ownsRow_setCell_below hown' (by simp) v'
  · exact (h.lks.snoc (by have := h.row.1; omega) ho).keep hsp
  · intro D ob hD hc
    have hDs := (Array.getElem?_eq_some_iff.1 hD).1
    rw [heap_other _ _ _ _ _ (fun e => by rw [e, h.ob] at hD; cases hD; cases hc),
      hgrow.block D (by simp; omega) (fun e => by obtain ⟨_, cur, hcur⟩ := hown D e.symm; rw [hcur] at hD; cases hD; cases hc), Below.heap_alloc _ _ _ hDs]
    exact hD
theorem info_s : (Try.prog.info? 52).map (fun i => (i.zero, i.size, i.bytes)) = some (some (.agg #[.int .i64 0, .int .i64 0]), 2, 16) := by kernel_rfl
theorem cellAt {w : World} {b o : Nat} {v : Value} (h : w.cell? ⟨b, o, none⟩ = some v) : ∃ C t fr, w.heap[b]? = some (Obj.cells C t fr) ∧ C[o]? = some v := by
  unfold World.cell? at h
  split at h
  · rename_i C t fr hb
    exact ⟨C, t, fr, hb, by simpa using h⟩
  · cases h
/-- What the iterator of parts reads, out of a slice of spans. -/
theorem sp_blocks {W : World} {v : Value} {l : List Sp} {p : Nat} (h : SpRow W v l) (hp : p < W.heap.size) : ∃ a cap bo, v = .slice a l.length cap ∧ bo < W.heap.size ∧ ∀ k, k < l.length → ∃ off C t fr, a = some ⟨bo, off, none⟩ ∧ W.heap[bo]? = some (Obj.cells C t fr) ∧ C[off + k * 2]? = some (.int .i64 (l.getD k (0, 0)).1) ∧ C[off + k * 2 + 1]? = some (.int .i64 (l.getD k (0, 0)).2) := by
  rcases h with ⟨a, cap, rfl, rfl⟩ | ⟨b, off, cap, rfl, hb, hc⟩
  · exact ⟨a, cap, p, rfl, hp, fun k hk => by simp at hk⟩
  · refine ⟨_, cap, b, rfl, hb, fun k hk => ?_⟩
    obtain ⟨h1, h2⟩ := hc k hk
    obtain ⟨C, t, fr, q1, q2⟩ := cellAt h1
    obtain ⟨C', t', fr', r1, r2⟩ := cellAt h2
    rw [q1] at r1; cases r1
    exact ⟨off, C, t, fr, rfl, q1, q2, r2⟩
/-- What holds while a round of Closed collects what is left of a link's spans. -/
def RgI (W3 : World) (n0 e : Nat) (pre : List Sp) (Y : World) : Prop := ((∀ b, b < n0 → b ≠ e → Y.heap[b]? = W3.heap[b]?) ∧ n0 ≤ Y.heap.size ∧ Y.os = W3.os ∧ Y.tape = W3.tape ∧ Y.output = W3.output) ∧ ∃ v, Boxed Y e 25 v ∧ Y.ownsRow n0 52 2 v pre.length (hopsL pre)
theorem RgI.grown {W3 : World} {n0 e : Nat} {pre : List Sp} {A B : World} {row : Option Nat} (h : RgI W3 n0 e pre A) (he : e < n0) (hg : A.grownBy B row) (hr : ∀ r, row = some r → n0 ≤ r ∧ ∃ o : Obj, A.heap[r]? = some o ∧ o.isCells = false) : RgI W3 n0 e pre B := by
  obtain ⟨⟨h1, h2, h3, h4, h5⟩, v, h6, h7⟩ := h
  have hne : ∀ b, b < n0 → some b ≠ row := fun b hb q => by have := (hr b q.symm).1; omega
  refine ⟨⟨fun b hb hbe => ?_, Nat.le_trans h2 hg.size, hg.os.trans h3, hg.tape.trans h4, hg.output.trans h5⟩, v, h6.kept hg (hne e he), h7.kept hg ?_⟩
  · rw [hg.block b (by omega) (hne b hb)]; exact h1 b hb hbe
  · cases hv : v.ownBlock with
    | none => exact .inl rfl
    | some g =>
      refine .inr (fun q => ?_)
      obtain ⟨_, o, ho, hoc⟩ := hr g q.symm
      rcases h7.2 with ⟨k1, _⟩ | ⟨g', cap, cur, k1, k2, k3, _⟩
      · rw [k1] at hv; cases hv
      · rw [k1] at hv
        obtain rfl : g' = g := by simpa [Value.ownBlock] using hv
        rw [k3] at ho; cases ho; cases hoc
theorem RgI.below {W3 : World} {n0 e : Nat} {pre : List Sp} {A B : World} (h : RgI W3 n0 e pre A) (he : e < n0) (hb : Below A.heap.size A B) : RgI W3 n0 e pre B :=
  h.grown he (row := none) ⟨hb.os, hb.tape, hb.output, hb.size, fun k hk _ => hb.block k hk⟩ (fun r q => by cases q)
/-- Behind an append to the row in the box. -/
theorem RgI.appended {W3 : World} {n0 e : Nat} {pre : List Sp} {x : Sp} {Y w1 : World} {v v' : Value} {o2 : Obj} (h : (∀ b, b < n0 → b ≠ e → Y.heap[b]? = W3.heap[b]?) ∧ n0 ≤ Y.heap.size ∧ Y.os = W3.os ∧ Y.tape = W3.tape ∧ Y.output = W3.output) (hv : Boxed Y e 25 v) (hrow : Y.ownsRow n0 52 2 v pre.length (hopsL pre)) (he : e < n0)
    (hown' : w1.ownsRow n0 52 2 v' (pre.length + 1) (hopsL pre ++ [.int .i64 x.1, .int .i64 x.2])) (hgrow : (Y.alloc o2).grownBy w1 v.ownBlock) (hat : v'.ownBlock = v.ownBlock ∨ v'.ownBlock = some (Y.alloc o2).heap.size) :
    KeepsFrom n0 Y (w1.setCell ⟨e, 0, none⟩ v') ∧ Kp5 e Y (w1.setCell ⟨e, 0, none⟩ v') ∧ RgI W3 n0 e (pre ++ [x]) (w1.setCell ⟨e, 0, none⟩ v') ∧ Boxed w1 e 25 v := by
  obtain ⟨h1, h2, h3, h4, h5⟩ := h
  obtain ⟨b1, b2, b3, b4, b5, b6⟩ := boxed_appended hv hrow he h2 hown' hgrow
  have hsz : Y.heap.size ≤ w1.heap.size := by have := hgrow.size; simp at this; omega
  refine ⟨b4.from _, ⟨by rw [size_set]; exact hsz, fun b C t fr hb hbe hbo => ?_, fun g hg => ?_⟩, ⟨⟨fun b hb hbe => ?_, by rw [size_set]; omega, ?_, ?_, ?_⟩, v', b2, ?_⟩, b1⟩
  · have hbs := (Array.getElem?_eq_some_iff.1 hb).1
    have hno : some b ≠ v.ownBlock := fun q => hbo (by unfold ownB; rw [hv.cell]; exact q.symm)
    rw [heap_other _ _ _ _ _ hbe, hgrow.block b (by simp; omega) hno, Below.heap_alloc _ _ _ hbs]
  · have hgg : v'.ownBlock = some g := by unfold ownB at hg; rw [b2.cell] at hg; exact hg
    rcases hat with q | q
    · exact .inl (by unfold ownB; rw [hv.cell]; exact q.symm.trans hgg)
    · rw [q] at hgg
      cases hgg
      rcases hown'.2 with ⟨k1, k2⟩ | ⟨g', cap, cur, k1, k2, k3, _⟩
      · rw [k1] at q; cases q
      · have hb := (Array.getElem?_eq_some_iff.1 k3).1
        rw [k1] at q
        have hgq : g' = (Y.alloc o2).heap.size := by simpa [Value.ownBlock] using q
        refine .inr ⟨by simp, ?_⟩
        rw [size_set, ← hgq]; exact hb
  · rw [b6 b hb hbe]; exact h1 b hb hbe
  · exact (hgrow.os.trans h3)
  · exact (hgrow.tape.trans h4)
  · exact (hgrow.output.trans h5)
  · rw [List.length_append, hopsL_snoc]; exact b3
theorem heap4 (w : World) (a b c d : Obj) : ((((w.alloc a).alloc b).alloc c).alloc d).heap[w.heap.size]? = some a ∧ ((((w.alloc a).alloc b).alloc c).alloc d).heap[w.heap.size + 1]? = some b ∧
    ((((w.alloc a).alloc b).alloc c).alloc d).heap[w.heap.size + 1 + 1]? = some c ∧ ((((w.alloc a).alloc b).alloc c).alloc d).heap[w.heap.size + 1 + 1 + 1]? = some d := by
  have s1 : (w.alloc a).heap.size = w.heap.size + 1 := by simp
  have s2 : ((w.alloc a).alloc b).heap.size = w.heap.size + 1 + 1 := by simp
  have s3 : (((w.alloc a).alloc b).alloc c).heap.size = w.heap.size + 1 + 1 + 1 := by simp
  refine ⟨?_, ?_, ?_, ?_⟩
  · rw [gNe _ _ _ (by omega), gNe _ _ _ (by omega), gNe _ _ _ (by omega)]; exact heap_alloc_new _ _
  · rw [gNe _ _ _ (by omega), gNe _ _ _ (by omega), ← s1]; exact heap_alloc_new _ _
  · rw [gNe _ _ _ (by omega), ← s2]; exact heap_alloc_new _ _
  · rw [← s3]; exact heap_alloc_new _ _
theorem below4 (w : World) (a b c d : Obj) : Below w.heap.size w ((((w.alloc a).alloc b).alloc c).alloc d) :=
  ((((Below.refl _ w).alloc (Nat.le_refl _) a).alloc (by simp) b).alloc (by simp; omega) c).alloc (by simp; omega) d
theorem cell_four (w : World) (a b c d : Value) (t : TypeId) (j : Nat) (u : Value) (h : [a, b, c, d][j]? = some u) : (w.alloc (.cells #[a, b, c, d] t)).cell? ((⟨w.heap.size, 0, none⟩ : Addr).add j) = some u := by
  rw [addr_add, Nat.zero_add, cellH (heap_alloc_new w (.cells #[a, b, c, d] t))]
  rw [← h]; simp
end Go.Proofs.Ytiboolbndfhomaa
