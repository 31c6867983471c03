/- What the arguments of relay's statements read as: nets, links, hops, numbers, spans; and the last step of each statement. -/
import Derived.Test.YtiboolbndfhomaaNA6
import Derived.ProofKit
import Derived.OpenShut
import Derived.Deep.DeepHandedRow
import Derived.Lay
import Derived.Carry
import Derived.Lib.SmallJoins
import Derived.LaidMore
import Derived.Deep.SlicePairs
import Derived.SliceStrings
set_option linter.unusedVariables false
set_option linter.unusedSimpArgs false
namespace Go.Proofs.Ytiboolbndfhomaa
open Go.ChangeShapes Go.WideShapes Go.ChangeAt Go.RowKit Go.Deep

theorem own : ownKnob Try.prog.godebug = none := by kernel_rfl
theorem cInt : Try.prog.cellsOf 3 = 1 := by kernel_rfl
theorem cSpan : Try.prog.cellsOf 52 = 2 := by kernel_rfl
theorem cHop : Try.prog.cellsOf 73 = 2 := by kernel_rfl
theorem cLink : Try.prog.cellsOf 27 = 4 := by kernel_rfl
theorem cSpans : Try.prog.cellsOf 25 = 1 := by kernel_rfl
/-- The last step of every statement: true, the arguments as they read. -/
theorem post_true {H : Type} {enc : TypeId × Value → H} {f : Func} {s : ChangeSpec} {W W' : World} {args : Array Value} {ds gs : List (DataW H)} {before pa : List MemPlace} (hv : s.vars = []) (hr : f.resultTypes = #[4])
    (hW : DataW.Whole enc Try.prog f.params.toList s.vars false W args.toList ds gs before) (hfn : s.fn H (ds ++ gs) = { results := [.lit (.bool true)], args := ds })
    (hargs : DataW.TrodAll enc Try.prog W' 0 (fun b => decide (b < W.heap.size)) true f.params.toList args.toList ds pa) (hb : Below W.heap.size W W') : s.post enc Try.prog f false true false false W args (.bool true) W' := by
  refine ⟨ds, gs, before, [], pa, [], hW, ?_, ?_, ?_, hb.frame _, fun h => by cases h⟩
  · rw [hfn, hr]; exact trodAll_mk1 (shut_bool Try.underlying4 true)
  · rw [hfn]; exact hargs
  · rw [hfn, hv]; rfl
theorem laidOut : laidOutB Try.prog = true := by kernel_rfl
/-- A world for the witness. -/
noncomputable def laidWorld (os : Os) : World := World.laidAll Try.prog os []
theorem laid_met (os : Os) (args : Array Value) : laidMet Try.prog [] ((laidWorld os).forCall (fun _ _ => 0) ⟨#[], args, []⟩).memory := laidMet_laidAll _ (by kernel_rfl) (by kernel_rfl)
theorem laid_vars (os : Os) (args : Array Value) : ((laidWorld os).forCall (fun _ _ => 0) ⟨#[], args, []⟩).variablesB Try.prog = true := by kernel_rfl
theorem laid_rest (os : Os) (args : Array Value) : ((((laidWorld os).forCall (fun _ _ => 0) ⟨#[], args, []⟩).heap.toList.drop Try.prog.globals.size).take ((begin Try.prog (fun _ _ => 0) default).world.heap.size - Try.prog.globals.size) =
      (begin Try.prog (fun _ _ => 0) default).world.heap.toList.drop Try.prog.globals.size) := by kernel_rfl
theorem block_of_cell {W : World} {a : Addr} {v : Value} (h : W.cell? a = some v) : a.block < W.heap.size := by
  unfold World.cell? at h
  split at h
  · rename_i hb; exact (Array.getElem?_eq_some_iff.1 hb).1
  · cases h
theorem addr_at (b off j : Nat) : (⟨b, off, none⟩ : Addr).add j = ⟨b, off + j, none⟩ := by
  unfold Addr.add; split <;> simp_all
section
variable {H : Type} {enc : TypeId × Value → H} {W : World} {r : Reach} {b0 base : Nat} {sp : Nat → Bool} {held : Bool} {v : Value} {d : DataW H} {p : List MemPlace}
/-- A slice of structs of two numbers, out of its reading. -/
theorem pairs_of_trod {s e : TypeId} {f0 f1 : Field} (hs : Try.prog.underlying s = some (.slice e)) (he : Try.prog.underlying e = some (.struct #[f0, f1])) (ce : Try.prog.cellsOf e = 2) (o0 : f0.offset = 0) (o1 : f1.offset = 1) (t0 : f0.type = 3) (t1 : f1.type = 3)
    {fuel : Nat} {cs : List Value} {x : DataW H × List MemPlace} (hf : DataW.trod enc Try.prog W base sp held fuel s cs = some x) : ∃ u l, cs = [u] ∧ SpRow W u l ∧ l.length ≤ 9223372036854775807 := by
  rcases open_slice_pairs hs he ce o0 o1 (by rw [t0]; exact cInt) (by rw [t1]; exact cInt) hf with ⟨hcs, hx⟩ | ⟨a, len, cap, m, n, V0, V1, D0, D1, P0, P1, hcs, _, hl, hm, hmm, hx, hi⟩
  · exact ⟨_, [], hcs, .inl ⟨_, _, rfl, rfl⟩, by simp⟩
  · have hlm : len ≤ m := by rw [hmm]; split <;> omega
    have hall : ∀ i, i < len → ∃ q : Int × Int, W.cell? (a.add (i * 2)) = some (.int .i64 q.1) ∧ W.cell? (a.add (i * 2 + 1)) = some (.int .i64 q.2) := fun i him => by
      obtain ⟨h0, h1, t0', t1'⟩ := hi i (by omega)
      rw [t0] at t0'; rw [t1] at t1'
      obtain ⟨x, e0, _, _⟩ := DataW.trod_int Try.underlying3 t0'
      obtain ⟨y, e1, _, _⟩ := DataW.trod_int Try.underlying3 t1'
      simp at e0 e1
      exact ⟨(x, y), by rw [h0, e0], by rw [h1, e1]⟩
    obtain ⟨q, hq⟩ := choose_lt hall
    refine ⟨_, (List.range len).map q, hcs, ?_, by simp; unfold maxLen at hm; omega⟩
    by_cases h0 : len = 0
    · subst h0; exact .inl ⟨_, _, rfl, rfl⟩
    · have hx0 := (hq 0 (by omega)).1
      have hsp : a.spot = none := by simpa [Addr.add] using World.cell?_spot hx0
      obtain ⟨b, off, spot⟩ := a
      simp only at hsp
      subst hsp
      refine .inr ⟨b, off, cap, by simp, ?_, fun i hil => ?_⟩
      · have := block_of_cell hx0; simpa [Addr.add] using this
      · simp only [List.length_map, List.length_range] at hil
        obtain ⟨hx1, hy1⟩ := hq i hil
        rw [addr_at] at hx1 hy1
        rw [List.getD_eq_getElem?_getD, List.getElem?_map, List.getElem?_range hil]
        exact ⟨hx1, hy1⟩
theorem spans_of_trod {fuel : Nat} {cs : List Value} {x : DataW H × List MemPlace} (hf : DataW.trod enc Try.prog W base sp held fuel 25 cs = some x) : ∃ u l, cs = [u] ∧ SpRow W u l ∧ l.length ≤ 9223372036854775807 :=
  pairs_of_trod Try.underlying25 Try.underlying52 cSpan rfl rfl rfl rfl hf
/-- A slice of links, out of its reading. -/
theorem links_of_trod {fuel : Nat} {cs : List Value} {x : DataW H × List MemPlace} (hf : DataW.trod enc Try.prog W base sp held fuel 22 cs = some x) : ∃ u l, cs = [u] ∧ NRow W u l := by
  rcases open_slice Try.underlying22 hf with ⟨hcs, hx⟩ | ⟨a, len, cap, m, n, D, Pl, hcs, _, hl, hm, hmm, hx, hi⟩
  · exact ⟨_, [], hcs, ⟨.inl ⟨_, _, rfl, rfl⟩, by simp, by simp⟩⟩
  · have hlm : len ≤ m := by rw [hmm]; split <;> omega
    have : Inhabited Lk := ⟨.nil⟩
    have hall : ∀ i, i < len → ∃ q : Lk, W.cell? (a.add (i * 4)) = some (.int .i64 q.fr) ∧ W.cell? (a.add (i * 4 + 1)) = some (.int .i64 q.to) ∧ W.cell? (a.add (i * 4 + 2)) = some (.int .i64 q.dl) ∧ (∃ o, W.cell? (a.add (i * 4 + 3)) = some o ∧ SpRow W o q.op) ∧ q.op.length ≤ 9223372036854775807 := fun i him => by
      obtain ⟨cs', h1, h2⟩ := hi i (by omega)
      rw [cLink] at h1
      obtain ⟨_, hlen, hcell⟩ := World.cells?_some h1
      obtain ⟨y0, y1, y2, y3, k, hxy, _, g0, g1, g2, g3⟩ := Go.Joins.trod_struct4 Try.underlying27 h2
      match cs', hlen with
      | [v0, v1, v2, v3], _ =>
        obtain ⟨x0, e0, _, _⟩ := DataW.trod_int Try.underlying3 g0
        obtain ⟨x1, e1, _, _⟩ := DataW.trod_int Try.underlying3 g1
        obtain ⟨x2, e2, _, _⟩ := DataW.trod_int Try.underlying3 g2
        obtain ⟨u, l, e3, hs, hb⟩ := spans_of_trod g3
        simp only [cInt, cSpans] at e0 e1 e2 e3
        simp at e0 e1 e2 e3
        have c0 := hcell 0 (by omega)
        have c1 := hcell 1 (by omega)
        have c2 := hcell 2 (by omega)
        have c3 := hcell 3 (by omega)
        rw [add_add] at c0 c1 c2 c3
        refine ⟨⟨x0, x1, x2, l⟩, ?_, ?_, ?_, ⟨u, ?_, hs⟩, hb⟩
        · simpa [e0] using c0
        · simpa [e1] using c1
        · simpa [e2] using c2
        · simpa [e3] using c3
    obtain ⟨q, hq⟩ := choose_lt hall
    refine ⟨_, (List.range len).map q, hcs, ?_, ?_, by simp; unfold maxLen at hm; omega⟩
    · by_cases h0 : len = 0
      · subst h0; exact .inl ⟨_, _, rfl, rfl⟩
      · have hx0 := (hq 0 (by omega)).1
        have hsp : a.spot = none := by simpa [Addr.add] using World.cell?_spot hx0
        obtain ⟨b, off, spot⟩ := a
        simp only at hsp
        subst hsp
        refine .inr ⟨b, off, cap, by simp, ?_, fun i hil => ?_⟩
        · have := block_of_cell hx0; simpa [Addr.add] using this
        · simp only [List.length_map, List.length_range] at hil
          obtain ⟨hx1, hx2, hx3, ⟨o, hx4, hs⟩, _⟩ := hq i hil
          rw [addr_at] at hx1 hx2 hx3 hx4
          rw [List.getD_eq_getElem?_getD, List.getElem?_map, List.getElem?_range hil]
          exact ⟨hx1, hx2, hx3, o, hx4, hs⟩
    · intro k hk
      obtain ⟨i, hi', rfl⟩ := List.mem_map.1 hk
      exact (hq i (List.mem_range.1 hi')).2.2.2.2
set_option maxRecDepth 100000 in
theorem open_net (hv : Value.okWide Try.prog W r b0 24 v) (h : DataW.Trod enc Try.prog W base sp held 24 v d p) :
    ∃ (st : Int) (o : Value) (ls : List Lk), v = ntV st o ∧ NRow W o ls ∧ -9223372036854775808 ≤ st ∧ st ≤ 9223372036854775807 := by
  obtain ⟨x0, x1, y0, y1, n, rfl, rfl, rfl, t0, t1⟩ := Go.Joins.open_agg2 Try.underlying24 (by kernel_rfl) (by kernel_rfl) hv h
  obtain ⟨a, e0, _, hw⟩ := DataW.trod_int Try.underlying3 t0
  obtain ⟨u, l, e1, hr⟩ := links_of_trod t1
  cases e0; cases e1
  have hx : -9223372036854775808 ≤ a ∧ a ≤ 9223372036854775807 := by simpa [Lit.wf, IntKind.min, IntKind.max, IntKind.signed, IntKind.bits] using hw
  exact ⟨a, x1, l, rfl, hr, hx.1, hx.2⟩
set_option maxRecDepth 100000 in
theorem open_link (hv : Value.okWide Try.prog W r b0 27 v) (h : DataW.Trod enc Try.prog W base sp held 27 v d p) :
    ∃ (k : Lk) (o : Value), v = lkV k o ∧ SpRow W o k.op ∧ k.op.length ≤ 9223372036854775807 := by
  obtain ⟨x0, x1, x2, x3, y0, y1, y2, y3, n, rfl, rfl, rfl, t0, t1, t2, t3⟩ := Go.Joins.open_agg4 Try.underlying27 (by kernel_rfl) (by kernel_rfl) hv h
  obtain ⟨a, e0, _, _⟩ := DataW.trod_int Try.underlying3 t0
  obtain ⟨b, e1, _, _⟩ := DataW.trod_int Try.underlying3 t1
  obtain ⟨c, e2, _, _⟩ := DataW.trod_int Try.underlying3 t2
  obtain ⟨u, l, e3, hr, hb⟩ := spans_of_trod t3
  cases e0; cases e1; cases e2; cases e3
  exact ⟨⟨a, b, c, l⟩, x3, rfl, hr, hb⟩
set_option maxRecDepth 100000 in
theorem open_span (hv : Value.okWide Try.prog W r b0 52 v) (h : DataW.Trod enc Try.prog W base sp held 52 v d p) :
    ∃ a b : Int, v = .agg #[.int .i64 a, .int .i64 b] ∧ (-9223372036854775808 ≤ a ∧ a ≤ 9223372036854775807) ∧ (-9223372036854775808 ≤ b ∧ b ≤ 9223372036854775807) := by
  obtain ⟨x0, x1, y0, y1, n, rfl, rfl, rfl, t0, t1⟩ := Go.Joins.open_agg2 Try.underlying52 (by kernel_rfl) (by kernel_rfl) hv h
  obtain ⟨a, e0, _, hw0⟩ := DataW.trod_int Try.underlying3 t0
  obtain ⟨b, e1, _, hw1⟩ := DataW.trod_int Try.underlying3 t1
  cases e0; cases e1
  exact ⟨a, b, rfl, by simpa [Lit.wf, IntKind.min, IntKind.max, IntKind.signed, IntKind.bits] using hw0, by simpa [Lit.wf, IntKind.min, IntKind.max, IntKind.signed, IntKind.bits] using hw1⟩
theorem int_bound (hv : Value.okWide Try.prog W r b0 3 v) (h : DataW.Trod enc Try.prog W base sp held 3 v d p) : ∃ n : Int, v = .int .i64 n ∧ (-9223372036854775808 ≤ n ∧ n ≤ 9223372036854775807) := by
  obtain ⟨n, rfl, _, _, hw⟩ := open_int Try.underlying3 hv h
  exact ⟨n, rfl, by simpa [Lit.wf, IntKind.min, IntKind.max, IntKind.signed, IntKind.bits] using hw⟩
set_option maxRecDepth 100000 in
theorem open_hops (hv : Value.okWide Try.prog W r b0 43 v) (h : DataW.Trod enc Try.prog W base sp held 43 v d p) : ∃ l : List Sp, SpRow W v l ∧ l.length ≤ 9223372036854775807 := by
  obtain ⟨a0, len, cap, rfl⟩ := okWide_slice Try.underlying43 hv
  obtain ⟨fuel, hf⟩ := h
  obtain ⟨u, l, e, hr, hb⟩ := pairs_of_trod Try.underlying43 Try.underlying73 cHop rfl rfl rfl rfl hf
  simp [Value.cells] at e
  subst e
  exact ⟨l, hr, hb⟩
set_option maxRecDepth 100000 in
theorem open_ints (hv : Value.okWide Try.prog W r b0 35 v) (h : DataW.Trod enc Try.prog W base sp held 35 v d p) : ∃ l : List Int, INRow W v l ∧ l.length ≤ 9223372036854775807 := by
  obtain ⟨a0, len, cap, rfl⟩ := okWide_slice Try.underlying35 hv
  obtain ⟨fuel, hf⟩ := h
  rcases open_slice1 Try.underlying35 cInt hf with ⟨hcs, hx⟩ | ⟨a, len', cap', m, n, V, D, Pl, hcs, _, hl, hm, hmm, hx, hi⟩
  · simp [Value.cells] at hcs
    obtain ⟨rfl, rfl, rfl⟩ := hcs
    exact ⟨[], .inl ⟨_, _, rfl, rfl⟩, by simp⟩
  · simp [Value.cells] at hcs
    obtain ⟨rfl, rfl, rfl⟩ := hcs
    have hlm : len ≤ m := by rw [hmm]; split <;> omega
    have hall : ∀ i, i < len → ∃ q : Int, W.cell? (a.add i) = some (.int .i64 q) := fun i him => by
      obtain ⟨h0, t0⟩ := hi i (by omega)
      obtain ⟨x, e0, _, _⟩ := DataW.trod_int Try.underlying3 t0
      simp at e0
      exact ⟨x, by rw [h0, e0]⟩
    obtain ⟨q, hq⟩ := choose_lt hall
    refine ⟨(List.range len).map q, ?_, by simp; unfold maxLen at hm; omega⟩
    by_cases h0 : len = 0
    · subst h0; exact .inl ⟨_, _, rfl, rfl⟩
    · have hx0 := hq 0 (by omega)
      have hsp : a.spot = none := by simpa [Addr.add] using World.cell?_spot hx0
      obtain ⟨b, off, spot⟩ := a
      simp only at hsp
      subst hsp
      refine .inr ⟨b, off, cap, by simp, ?_, fun i hil => ?_⟩
      · have := block_of_cell hx0; simpa [Addr.add] using this
      · simp only [List.length_map, List.length_range] at hil
        have hx1 := hq i hil
        rw [addr_at] at hx1
        rw [List.getD_eq_getElem?_getD, List.getElem?_map, List.getElem?_range hil]
        exact hx1
set_option maxRecDepth 100000 in
theorem open_u8 (hv : Value.okWide Try.prog W r b0 5 v) (h : DataW.Trod enc Try.prog W base sp held 5 v d p) : ∃ n : Int, v = .int .u8 n ∧ 0 ≤ n ∧ n ≤ 255 := by
  obtain ⟨n, rfl, _, _, hw⟩ := open_int Try.underlying5 hv h
  exact ⟨n, rfl, by simpa [Lit.wf, IntKind.min, IntKind.max, IntKind.signed, IntKind.bits] using hw⟩
set_option maxRecDepth 100000 in
theorem open_u16 (hv : Value.okWide Try.prog W r b0 59 v) (h : DataW.Trod enc Try.prog W base sp held 59 v d p) : ∃ n : Int, v = .int .u16 n ∧ 0 ≤ n ∧ n ≤ 65535 := by
  obtain ⟨n, rfl, _, _, hw⟩ := open_int Try.underlying59 hv h
  exact ⟨n, rfl, by simpa [Lit.wf, IntKind.min, IntKind.max, IntKind.signed, IntKind.bits] using hw⟩
end
end Go.Proofs.Ytiboolbndfhomaa
