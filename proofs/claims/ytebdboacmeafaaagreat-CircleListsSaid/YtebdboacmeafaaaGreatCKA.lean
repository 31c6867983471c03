/- Merged: CK0, CK1. -/
import Derived.Test.YtebdboacmeafaaaGreatHA0
import Derived.ProofKit
import Derived.OpenShut
import Derived.Deep.DeepHandedRow
import Derived.Lay
import Derived.Carry
import Derived.Lib.SmallJoins
import Derived.LaidMore
import Derived.Deep.SlicePairs
import Derived.SliceStrings
import Derived.Test.YtebdboacmeafaaaGreatCB0
import Derived.Deep.Strs
/- What the arguments of ridge's statements read as: places and fractions; and the last step of each statement. -/
set_option linter.unusedVariables false
set_option linter.unusedSimpArgs false
namespace Go.Proofs.YtebdboacmeafaaaGreat
open Go.ChangeShapes Go.WideShapes Go.ChangeAt Go.RowKit Go.Deep

theorem own : ownKnob Tryz.prog.godebug = none := by kernel_rfl
theorem cInt : Tryz.prog.cellsOf 3 = 1 := by kernel_rfl
/-- The last step of every statement: true, the arguments as they read. -/
theorem post_true {H : Type} {enc : TypeId × Value → H} {f : Func} {s : ChangeSpec} {W W' : World} {args : Array Value} {ds gs : List (DataW H)} {before pa : List MemPlace} (hv : s.vars = []) (hr : f.resultTypes = #[4])
    (hW : DataW.Whole enc Tryz.prog f.params.toList s.vars false W args.toList ds gs before) (hfn : s.fn H (ds ++ gs) = { results := [.lit (.bool true)], args := ds })
    (hargs : DataW.TrodAll enc Tryz.prog W' 0 (fun b => decide (b < W.heap.size)) true f.params.toList args.toList ds pa) (hb : Below W.heap.size W W') : s.post enc Tryz.prog f false true false false W args (.bool true) W' := by
  refine ⟨ds, gs, before, [], pa, [], hW, ?_, ?_, ?_, hb.frame _, fun h => by cases h⟩
  · rw [hfn, hr]; exact trodAll_mk1 (shut_bool Tryz.underlying4 true)
  · rw [hfn]; exact hargs
  · rw [hfn, hv]; rfl
theorem laidOut : laidOutB Tryz.prog = true := by kernel_rfl
/-- A world for the witness. -/
noncomputable def laidWorld (os : Os) : World := World.laidAll Tryz.prog os []
theorem laid_met (os : Os) (args : Array Value) : laidMet Tryz.prog [] ((laidWorld os).forCall (fun _ _ => 0) ⟨#[], args, []⟩).memory := laidMet_laidAll _ (by kernel_rfl) (by kernel_rfl)
theorem laid_vars (os : Os) (args : Array Value) : ((laidWorld os).forCall (fun _ _ => 0) ⟨#[], args, []⟩).variablesB Tryz.prog = true := by kernel_rfl
theorem laid_rest (os : Os) (args : Array Value) : ((((laidWorld os).forCall (fun _ _ => 0) ⟨#[], args, []⟩).heap.toList.drop Tryz.prog.globals.size).take ((begin Tryz.prog (fun _ _ => 0) default).world.heap.size - Tryz.prog.globals.size) =
      (begin Tryz.prog (fun _ _ => 0) default).world.heap.toList.drop Tryz.prog.globals.size) := by kernel_rfl
section
variable {H : Type} {enc : TypeId × Value → H} {W : World} {r : Reach} {b0 base : Nat} {sp : Nat → Bool} {held : Bool} {v : Value} {d : DataW H} {p : List MemPlace}
set_option maxRecDepth 100000 in
theorem open_place (hv : Value.okWide Tryz.prog W r b0 65 v) (h : DataW.Trod enc Tryz.prog W base sp held 65 v d p) :
    ∃ a b : Int, v = .agg #[.int .i64 a, .int .i64 b] ∧ (-9223372036854775808 ≤ a ∧ a ≤ 9223372036854775807) ∧ (-9223372036854775808 ≤ b ∧ b ≤ 9223372036854775807) := by
  obtain ⟨x0, x1, y0, y1, n, rfl, rfl, rfl, t0, t1⟩ := Go.Joins.open_agg2 Tryz.underlying65 (by kernel_rfl) (by kernel_rfl) hv h
  obtain ⟨a, e0, _, hw0⟩ := DataW.trod_int Tryz.underlying3 t0
  obtain ⟨b, e1, _, hw1⟩ := DataW.trod_int Tryz.underlying3 t1
  cases e0; cases e1
  exact ⟨a, b, rfl, by simpa [Lit.wf, IntKind.min, IntKind.max, IntKind.signed, IntKind.bits] using hw0, by simpa [Lit.wf, IntKind.min, IntKind.max, IntKind.signed, IntKind.bits] using hw1⟩
set_option maxRecDepth 100000 in
theorem open_wedge (hv : Value.okWide Tryz.prog W r b0 77 v) (h : DataW.Trod enc Tryz.prog W base sp held 77 v d p) :
    ∃ a b : Int, v = .agg #[.int .i64 a, .int .i64 b] ∧ (-9223372036854775808 ≤ a ∧ a ≤ 9223372036854775807) ∧ (-9223372036854775808 ≤ b ∧ b ≤ 9223372036854775807) := by
  obtain ⟨x0, x1, y0, y1, n, rfl, rfl, rfl, t0, t1⟩ := Go.Joins.open_agg2 Tryz.underlying77 (by kernel_rfl) (by kernel_rfl) hv h
  obtain ⟨a, e0, _, hw0⟩ := DataW.trod_int Tryz.underlying3 t0
  obtain ⟨b, e1, _, hw1⟩ := DataW.trod_int Tryz.underlying3 t1
  cases e0; cases e1
  exact ⟨a, b, rfl, by simpa [Lit.wf, IntKind.min, IntKind.max, IntKind.signed, IntKind.bits] using hw0, by simpa [Lit.wf, IntKind.min, IntKind.max, IntKind.signed, IntKind.bits] using hw1⟩
set_option maxRecDepth 100000 in
theorem int_bound (hv : Value.okWide Tryz.prog W r b0 3 v) (h : DataW.Trod enc Tryz.prog W base sp held 3 v d p) : ∃ n : Int, v = .int .i64 n ∧ (-9223372036854775808 ≤ n ∧ n ≤ 9223372036854775807) := by
  obtain ⟨n, rfl, _, _, hw⟩ := open_int Tryz.underlying3 hv h
  exact ⟨n, rfl, by simpa [Lit.wf, IntKind.min, IntKind.max, IntKind.signed, IntKind.bits] using hw⟩
end
end Go.Proofs.YtebdboacmeafaaaGreat
/- What circles and checks of a statement's arguments read as. -/
set_option linter.unusedVariables false
set_option linter.unusedSimpArgs false
namespace Go.Proofs.YtebdboacmeafaaaGreat
open Go.ChangeShapes Go.WideShapes Go.ChangeAt Go.RowKit Go.Deep

theorem cCir : Tryz.prog.cellsOf 93 = 8 := by kernel_rfl
theorem cChk : Tryz.prog.cellsOf 67 = 7 := by kernel_rfl
theorem cPl : Tryz.prog.cellsOf 65 = 2 := by kernel_rfl
theorem cSp : Tryz.prog.cellsOf 36 = 2 := by kernel_rfl
theorem cCirs : Tryz.prog.cellsOf 22 = 1 := by kernel_rfl
theorem cChks : Tryz.prog.cellsOf 23 = 1 := by kernel_rfl
section
variable {H : Type} {enc : TypeId × Value → H} {P : Program} {W : World} {r : Reach} {b0 base : Nat} {sp : Nat → Bool} {held : Bool} {v : Value} {d : DataW H} {p : List MemPlace}
theorem open_six {t : TypeId} {f0 f1 f2 f3 f4 f5 : Field} {fuel : Nat} {cs : List Value} {x : DataW H × List MemPlace} (ht : P.underlying t = some (.struct #[f0, f1, f2, f3, f4, f5])) (h : DataW.trod enc P W base sp held fuel t cs = some x) :
    ∃ y0 y1 y2 y3 y4 y5 n, DataW.trod enc P W base sp held n f0.type ((cs.drop f0.offset).take (P.cellsOf f0.type)) = some y0 ∧ DataW.trod enc P W base sp held n f1.type ((cs.drop f1.offset).take (P.cellsOf f1.type)) = some y1 ∧
      DataW.trod enc P W base sp held n f2.type ((cs.drop f2.offset).take (P.cellsOf f2.type)) = some y2 ∧ DataW.trod enc P W base sp held n f3.type ((cs.drop f3.offset).take (P.cellsOf f3.type)) = some y3 ∧
      DataW.trod enc P W base sp held n f4.type ((cs.drop f4.offset).take (P.cellsOf f4.type)) = some y4 ∧ DataW.trod enc P W base sp held n f5.type ((cs.drop f5.offset).take (P.cellsOf f5.type)) = some y5 := by
  obtain ⟨xs, n, _, rfl, hl, hlen, hf⟩ := DataW.trod_struct ht h
  match xs, hlen with
  | [y0, y1, y2, y3, y4, y5], _ => exact ⟨y0, y1, y2, y3, y4, y5, n, by simpa using hf 0 f0 rfl, by simpa using hf 1 f1 rfl, by simpa using hf 2 f2 rfl, by simpa using hf 3 f3 rfl, by simpa using hf 4 f4 rfl, by simpa using hf 5 f5 rfl⟩
theorem block_of_cellK {W : World} {a : Addr} {v : Value} (h : W.cell? a = some v) : a.block < W.heap.size := by
  unfold World.cell? at h
  split at h
  · rename_i hb; exact (Array.getElem?_eq_some_iff.1 hb).1
  · cases h
theorem addr_atK (b off j : Nat) : (⟨b, off, none⟩ : Addr).add j = ⟨b, off + j, none⟩ := by
  unfold Addr.add; split <;> simp_all
set_option maxRecDepth 100000 in
theorem cirs_of_trod {fuel : Nat} {cs : List Value} {x : DataW H × List MemPlace} (hf : DataW.trod enc Tryz.prog W base sp held fuel 22 cs = some x) : ∃ u l, cs = [u] ∧ CiRow W u l ∧ l.length ≤ 9223372036854775807 := by
  rcases open_slice Tryz.underlying22 hf with ⟨hcs, hx⟩ | ⟨a, len, cap, m, n, D, Pl, hcs, _, hl, hm, hmm, hx, hi⟩
  · exact ⟨_, [], hcs, .inl ⟨_, _, rfl, rfl⟩, by simp⟩
  · have hlm : len ≤ m := by rw [hmm]; split <;> omega
    have hlc : len ≤ cap := by omega
    have : Inhabited Ci := ⟨.nil⟩
    have hall : ∀ i, i < len → ∃ q : Ci, W.cell? (a.add (i * 8)) = some (.int .i64 q.id) ∧ W.cell? (a.add (i * 8 + 1)) = some (.int .i64 q.x) ∧ W.cell? (a.add (i * 8 + 2)) = some (.int .i64 q.y) ∧ W.cell? (a.add (i * 8 + 3)) = some (.int .i64 q.f) ∧ W.cell? (a.add (i * 8 + 4)) = some (.int .i64 q.t) ∧ W.cell? (a.add (i * 8 + 5)) = some (.int .i64 q.lo) ∧ W.cell? (a.add (i * 8 + 6)) = some (.int .i64 q.hi) ∧ W.cell? (a.add (i * 8 + 7)) = some (.int .i64 q.dr) := fun i him => by
      obtain ⟨cs', h1, h2⟩ := hi i (by omega)
      rw [cCir] at h1
      obtain ⟨_, hlen, hcell⟩ := World.cells?_some h1
      obtain ⟨y0, y1, y2, y3, y4, y5, k, g0, g1, g2, g3, g4, g5⟩ := open_six Tryz.underlying93 h2
      match cs', hlen with
      | [v0, v1, v2, v3, v4, v5, v6, v7], _ =>
        obtain ⟨x0, e0, _, _⟩ := DataW.trod_int Tryz.underlying3 g0
        obtain ⟨z0, z1, k2, _, _, j0, j1⟩ := trod_struct2 Tryz.underlying65 g1
        obtain ⟨x1, e1, _, _⟩ := DataW.trod_int Tryz.underlying3 j0
        obtain ⟨x2, e2, _, _⟩ := DataW.trod_int Tryz.underlying3 j1
        obtain ⟨x3, e3, _, _⟩ := DataW.trod_int Tryz.underlying3 g2
        obtain ⟨x4, e4, _, _⟩ := DataW.trod_int Tryz.underlying3 g3
        obtain ⟨z3, z4, k3, _, _, m0, m1⟩ := trod_struct2 Tryz.underlying36 g4
        obtain ⟨x5, e5, _, _⟩ := DataW.trod_int Tryz.underlying3 m0
        obtain ⟨x6, e6, _, _⟩ := DataW.trod_int Tryz.underlying3 m1
        obtain ⟨x7, e7, _, _⟩ := DataW.trod_int Tryz.underlying3 g5
        simp only [cInt, cPl, cSp] at e0 e1 e2 e3 e4 e5 e6 e7
        simp at e0 e1 e2 e3 e4 e5 e6 e7
        have c0 := hcell 0 (by omega)
        have c1 := hcell 1 (by omega)
        have c2 := hcell 2 (by omega)
        have c3 := hcell 3 (by omega)
        have c4 := hcell 4 (by omega)
        have c5 := hcell 5 (by omega)
        have c6 := hcell 6 (by omega)
        have c7 := hcell 7 (by omega)
        rw [add_add] at c0 c1 c2 c3 c4 c5 c6 c7
        refine ⟨⟨x0, x1, x2, x3, x4, x5, x6, x7⟩, ?_, ?_, ?_, ?_, ?_, ?_, ?_, ?_⟩
        · simpa [e0] using c0
        · simpa [e1] using c1
        · simpa [e2] using c2
        · simpa [e3] using c3
        · simpa [e4] using c4
        · simpa [e5] using c5
        · simpa [e6] using c6
        · simpa [e7] using c7
    obtain ⟨q, hq⟩ := choose_lt hall
    refine ⟨_, (List.range len).map q, hcs, ?_, by simp; unfold maxLen at hm; omega⟩
    by_cases h0 : len = 0
    · subst h0; exact .inl ⟨_, _, rfl, rfl⟩
    · have hx0 := (hq 0 (by omega)).1
      have hsp : a.spot = none := by simpa [Addr.add] using World.cell?_spot hx0
      obtain ⟨b, off, spot⟩ := a
      simp only at hsp
      subst hsp
      refine .inr ⟨b, off, cap, by simp, by simpa using hlc, ?_, fun i hil => ?_⟩
      · have := block_of_cellK hx0; simpa [Addr.add] using this
      · simp only [List.length_map, List.length_range] at hil
        obtain ⟨hx1, hx2, hx3, hx4, hx5, hx6, hx7, hx8⟩ := hq i hil
        rw [addr_atK] at hx1 hx2 hx3 hx4 hx5 hx6 hx7 hx8
        rw [List.getD_eq_getElem?_getD, List.getElem?_map, List.getElem?_range hil]
        exact ⟨hx1, hx2, hx3, hx4, hx5, hx6, hx7, hx8⟩
set_option maxRecDepth 100000 in
theorem chks_of_trod {fuel : Nat} {cs : List Value} {x : DataW H × List MemPlace} (hf : DataW.trod enc Tryz.prog W base sp held fuel 23 cs = some x) : ∃ u l, cs = [u] ∧ CkRow W u l ∧ l.length ≤ 9223372036854775807 := by
  rcases open_slice Tryz.underlying23 hf with ⟨hcs, hx⟩ | ⟨a, len, cap, m, n, D, Pl, hcs, _, hl, hm, hmm, hx, hi⟩
  · exact ⟨_, [], hcs, .inl ⟨_, _, rfl, rfl⟩, by simp⟩
  · have hlm : len ≤ m := by rw [hmm]; split <;> omega
    have hlc : len ≤ cap := by omega
    have : Inhabited Ck := ⟨.nil⟩
    have hall : ∀ i, i < len → ∃ q : Ck, W.cell? (a.add (i * 7)) = some (.int .i64 q.id) ∧ W.cell? (a.add (i * 7 + 1)) = some (.int .i64 q.c) ∧ W.cell? (a.add (i * 7 + 2)) = some (.int .i64 q.t) ∧ W.cell? (a.add (i * 7 + 3)) = some (.int .i64 q.x) ∧ W.cell? (a.add (i * 7 + 4)) = some (.int .i64 q.y) ∧ W.cell? (a.add (i * 7 + 5)) = some (.int .i64 q.s) ∧ W.cell? (a.add (i * 7 + 6)) = some (.int .i64 q.sl) := fun i him => by
      obtain ⟨cs', h1, h2⟩ := hi i (by omega)
      rw [cChk] at h1
      obtain ⟨_, hlen, hcell⟩ := World.cells?_some h1
      obtain ⟨y0, y1, y2, y3, y4, y5, k, g0, g1, g2, g3, g4, g5⟩ := open_six Tryz.underlying67 h2
      match cs', hlen with
      | [v0, v1, v2, v3, v4, v5, v6], _ =>
        obtain ⟨x0, e0, _, _⟩ := DataW.trod_int Tryz.underlying3 g0
        obtain ⟨x1, e1, _, _⟩ := DataW.trod_int Tryz.underlying3 g1
        obtain ⟨x2, e2, _, _⟩ := DataW.trod_int Tryz.underlying3 g2
        obtain ⟨z0, z1, k2, _, _, j0, j1⟩ := trod_struct2 Tryz.underlying65 g3
        obtain ⟨x3, e3, _, _⟩ := DataW.trod_int Tryz.underlying3 j0
        obtain ⟨x4, e4, _, _⟩ := DataW.trod_int Tryz.underlying3 j1
        obtain ⟨x5, e5, _, _⟩ := DataW.trod_int Tryz.underlying3 g4
        obtain ⟨x6, e6, _, _⟩ := DataW.trod_int Tryz.underlying3 g5
        simp only [cInt, cPl, cSp] at e0 e1 e2 e3 e4 e5 e6
        simp at e0 e1 e2 e3 e4 e5 e6
        have c0 := hcell 0 (by omega)
        have c1 := hcell 1 (by omega)
        have c2 := hcell 2 (by omega)
        have c3 := hcell 3 (by omega)
        have c4 := hcell 4 (by omega)
        have c5 := hcell 5 (by omega)
        have c6 := hcell 6 (by omega)
        rw [add_add] at c0 c1 c2 c3 c4 c5 c6
        refine ⟨⟨x0, x1, x2, x3, x4, x5, x6⟩, ?_, ?_, ?_, ?_, ?_, ?_, ?_⟩
        · simpa [e0] using c0
        · simpa [e1] using c1
        · simpa [e2] using c2
        · simpa [e3] using c3
        · simpa [e4] using c4
        · simpa [e5] using c5
        · simpa [e6] using c6
    obtain ⟨q, hq⟩ := choose_lt hall
    refine ⟨_, (List.range len).map q, hcs, ?_, by simp; unfold maxLen at hm; omega⟩
    by_cases h0 : len = 0
    · subst h0; exact .inl ⟨_, _, rfl, rfl⟩
    · have hx0 := (hq 0 (by omega)).1
      have hsp : a.spot = none := by simpa [Addr.add] using World.cell?_spot hx0
      obtain ⟨b, off, spot⟩ := a
      simp only at hsp
      subst hsp
      refine .inr ⟨b, off, cap, by simp, by simpa using hlc, ?_, fun i hil => ?_⟩
      · have := block_of_cellK hx0; simpa [Addr.add] using this
      · simp only [List.length_map, List.length_range] at hil
        obtain ⟨hx1, hx2, hx3, hx4, hx5, hx6, hx7⟩ := hq i hil
        rw [addr_atK] at hx1 hx2 hx3 hx4 hx5 hx6 hx7
        rw [List.getD_eq_getElem?_getD, List.getElem?_map, List.getElem?_range hil]
        exact ⟨hx1, hx2, hx3, hx4, hx5, hx6, hx7⟩
set_option maxRecDepth 100000 in
theorem open_circles (hv : Value.okWide Tryz.prog W r b0 25 v) (h : DataW.Trod enc Tryz.prog W base sp held 25 v d p) :
    ∃ (v1 v2 : Value) (cs : List Ci) (ks : List Ck), v = .agg #[v1, v2] ∧ CiRow W v1 cs ∧ CkRow W v2 ks ∧ cs.length ≤ 9223372036854775807 ∧ ks.length ≤ 9223372036854775807 := by
  obtain ⟨x0, x1, y0, y1, n, rfl, rfl, rfl, t0, t1⟩ := Go.Joins.open_agg2 Tryz.underlying25 (by kernel_rfl) (by kernel_rfl) hv h
  obtain ⟨u, l, e0, hr, hl⟩ := cirs_of_trod t0
  obtain ⟨u2, l2, e1, hr2, hl2⟩ := chks_of_trod t1
  cases e0; cases e1
  exact ⟨_, _, l, l2, rfl, hr, hr2, hl, hl2⟩
end
section
open Go.ChangeShapes Go.WideShapes Go.ChangeAt Go.Deep
variable {H : Type} {enc : TypeId × Value → H} {W : World} {r : Reach} {b0 base : Nat} {sp : Nat → Bool} {held : Bool} {v : Value} {d : DataW H} {p : List MemPlace}
set_option maxRecDepth 100000 in
theorem open_reading (hv : Value.okWide Tryz.prog W r b0 50 v) (h : DataW.Trod enc Tryz.prog W base sp held 50 v d p) : ∃ a b c e : Int, v = .agg #[.int .i64 a, .int .i64 b, .int .i64 c, .int .i64 e] := by
  obtain ⟨x0, x1, x2, x3, y0, y1, y2, y3, n, rfl, rfl, rfl, t0, t1, t2, t3⟩ := Go.Joins.open_agg4 Tryz.underlying50 (by kernel_rfl) (by kernel_rfl) hv h
  obtain ⟨a, e0, _, _⟩ := DataW.trod_int Tryz.underlying3 t0
  obtain ⟨b, e1, _, _⟩ := DataW.trod_int Tryz.underlying3 t1
  obtain ⟨c, e2, _, _⟩ := DataW.trod_int Tryz.underlying3 t2
  obtain ⟨e, e3, _, _⟩ := DataW.trod_int Tryz.underlying3 t3
  cases e0; cases e1; cases e2; cases e3
  exact ⟨a, b, c, e, rfl⟩
end
end Go.Proofs.YtebdboacmeafaaaGreat
