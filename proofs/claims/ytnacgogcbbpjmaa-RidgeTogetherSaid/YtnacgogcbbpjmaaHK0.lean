/- What the arguments of ridge's statements read as: places and fractions; and the last step of each statement. -/
import Derived.Test.YtnacgogcbbpjmaaHA0
import Derived.ProofKit
import Derived.OpenShut
import Derived.Deep.DeepHandedRow
import Derived.Lay
import Derived.Carry
import Derived.Lib.SmallJoins
import Derived.LaidMore
import Derived.Deep.SlicePairs
import Derived.SliceStrings
import Derived.Test.YtnacgogcbbpjmaaHA1
import Derived.Test.YtnacgogcbbpjmaaHB9
set_option linter.unusedVariables false
set_option linter.unusedSimpArgs false
namespace Go.Proofs.Ytnacgogcbbpjmaa
open Go.ChangeShapes Go.WideShapes Go.ChangeAt Go.RowKit Go.Deep

theorem own : ownKnob Try.prog.godebug = none := by kernel_rfl
theorem cInt : Try.prog.cellsOf 3 = 1 := by kernel_rfl
/-- The last step of every statement: true, the arguments as they read. -/
theorem post_true {H : Type} {enc : TypeId × Value → H} {f : Func} {s : ChangeSpec} {W W' : World} {args : Array Value} {ds gs : List (DataW H)} {before pa : List MemPlace} (hv : s.vars = []) (hr : f.resultTypes = #[4])
    (hW : DataW.Whole enc Try.prog f.params.toList s.vars false W args.toList ds gs before) (hfn : s.fn H (ds ++ gs) = { results := [.lit (.bool true)], args := ds })
    (hargs : DataW.TrodAll enc Try.prog W' 0 (fun b => decide (b < W.heap.size)) true f.params.toList args.toList ds pa) (hb : Below W.heap.size W W') : s.post enc Try.prog f false true false false W args (.bool true) W' := by
  refine ⟨ds, gs, before, [], pa, [], hW, ?_, ?_, ?_, hb.frame _, fun h => by cases h⟩
  · rw [hfn, hr]; exact trodAll_mk1 (shut_bool Try.underlying4 true)
  · rw [hfn]; exact hargs
  · rw [hfn, hv]; rfl
theorem laidOut : laidOutB Try.prog = true := by kernel_rfl
/-- A world for the witness. -/
noncomputable def laidWorld (os : Os) : World := World.laidAll Try.prog os []
theorem laid_met (os : Os) (args : Array Value) : laidMet Try.prog [] ((laidWorld os).forCall (fun _ _ => 0) ⟨#[], args, []⟩).memory := laidMet_laidAll _ (by kernel_rfl) (by kernel_rfl)
theorem laid_vars (os : Os) (args : Array Value) : ((laidWorld os).forCall (fun _ _ => 0) ⟨#[], args, []⟩).variablesB Try.prog = true := by kernel_rfl
theorem laid_rest (os : Os) (args : Array Value) : ((((laidWorld os).forCall (fun _ _ => 0) ⟨#[], args, []⟩).heap.toList.drop Try.prog.globals.size).take ((begin Try.prog (fun _ _ => 0) default).world.heap.size - Try.prog.globals.size) =
      (begin Try.prog (fun _ _ => 0) default).world.heap.toList.drop Try.prog.globals.size) := by kernel_rfl
section
variable {H : Type} {enc : TypeId × Value → H} {W : World} {r : Reach} {b0 base : Nat} {sp : Nat → Bool} {held : Bool} {v : Value} {d : DataW H} {p : List MemPlace}
set_option maxRecDepth 100000 in
theorem open_frac (hv : Value.okWide Try.prog W r b0 69 v) (h : DataW.Trod enc Try.prog W base sp held 69 v d p) :
    ∃ a b : Int, v = .agg #[.int .i64 a, .int .i64 b] ∧ (-9223372036854775808 ≤ a ∧ a ≤ 9223372036854775807) ∧ (-9223372036854775808 ≤ b ∧ b ≤ 9223372036854775807) := by
  obtain ⟨x0, x1, y0, y1, n, rfl, rfl, rfl, t0, t1⟩ := Go.Joins.open_agg2 Try.underlying69 (by kernel_rfl) (by kernel_rfl) hv h
  obtain ⟨a, e0, _, hw0⟩ := DataW.trod_int Try.underlying3 t0
  obtain ⟨b, e1, _, hw1⟩ := DataW.trod_int Try.underlying3 t1
  cases e0; cases e1
  exact ⟨a, b, rfl, by simpa [Lit.wf, IntKind.min, IntKind.max, IntKind.signed, IntKind.bits] using hw0, by simpa [Lit.wf, IntKind.min, IntKind.max, IntKind.signed, IntKind.bits] using hw1⟩
set_option maxRecDepth 100000 in
theorem open_place (hv : Value.okWide Try.prog W r b0 32 v) (h : DataW.Trod enc Try.prog W base sp held 32 v d p) :
    ∃ a b : Int, v = .agg #[.int .i64 a, .int .i64 b] ∧ (-9223372036854775808 ≤ a ∧ a ≤ 9223372036854775807) ∧ (-9223372036854775808 ≤ b ∧ b ≤ 9223372036854775807) := by
  obtain ⟨x0, x1, y0, y1, n, rfl, rfl, rfl, t0, t1⟩ := Go.Joins.open_agg2 Try.underlying32 (by kernel_rfl) (by kernel_rfl) hv h
  obtain ⟨a, e0, _, hw0⟩ := DataW.trod_int Try.underlying3 t0
  obtain ⟨b, e1, _, hw1⟩ := DataW.trod_int Try.underlying3 t1
  cases e0; cases e1
  exact ⟨a, b, rfl, by simpa [Lit.wf, IntKind.min, IntKind.max, IntKind.signed, IntKind.bits] using hw0, by simpa [Lit.wf, IntKind.min, IntKind.max, IntKind.signed, IntKind.bits] using hw1⟩
set_option maxRecDepth 100000 in
theorem open_cross (hv : Value.okWide Try.prog W r b0 60 v) (h : DataW.Trod enc Try.prog W base sp held 60 v d p) :
    ∃ a b : Int, v = .agg #[.int .i64 a, .int .i64 b] ∧ (-9223372036854775808 ≤ a ∧ a ≤ 9223372036854775807) ∧ (-9223372036854775808 ≤ b ∧ b ≤ 9223372036854775807) := by
  obtain ⟨x0, x1, y0, y1, n, rfl, rfl, rfl, t0, t1⟩ := Go.Joins.open_agg2 Try.underlying60 (by kernel_rfl) (by kernel_rfl) hv h
  obtain ⟨a, e0, _, hw0⟩ := DataW.trod_int Try.underlying3 t0
  obtain ⟨b, e1, _, hw1⟩ := DataW.trod_int Try.underlying3 t1
  cases e0; cases e1
  exact ⟨a, b, rfl, by simpa [Lit.wf, IntKind.min, IntKind.max, IntKind.signed, IntKind.bits] using hw0, by simpa [Lit.wf, IntKind.min, IntKind.max, IntKind.signed, IntKind.bits] using hw1⟩
set_option maxRecDepth 100000 in
theorem int_bound (hv : Value.okWide Try.prog W r b0 3 v) (h : DataW.Trod enc Try.prog W base sp held 3 v d p) : ∃ n : Int, v = .int .i64 n ∧ (-9223372036854775808 ≤ n ∧ n ≤ 9223372036854775807) := by
  obtain ⟨n, rfl, _, _, hw⟩ := open_int Try.underlying3 hv h
  exact ⟨n, rfl, by simpa [Lit.wf, IntKind.min, IntKind.max, IntKind.signed, IntKind.bits] using hw⟩
set_option maxRecDepth 100000 in
theorem open_u8 (hv : Value.okWide Try.prog W r b0 5 v) (h : DataW.Trod enc Try.prog W base sp held 5 v d p) : ∃ n : Int, v = .int .u8 n ∧ 0 ≤ n ∧ n ≤ 255 := by
  obtain ⟨n, rfl, _, _, hw⟩ := open_int Try.underlying5 hv h
  exact ⟨n, rfl, by simpa [Lit.wf, IntKind.min, IntKind.max, IntKind.signed, IntKind.bits] using hw⟩
end
end Go.Proofs.Ytnacgogcbbpjmaa

/-! What a map reads as. -/
set_option linter.unusedVariables false
set_option linter.unusedSimpArgs false
namespace Go.Proofs.Ytnacgogcbbpjmaa
open Go.ChangeShapes Go.WideShapes Go.ChangeAt Go.RowKit Go.Deep

section
variable {H : Type} {enc : TypeId × Value → H} {W : World} {r : Reach} {b0 base : Nat} {sp : Nat → Bool} {held : Bool} {v : Value} {d : DataW H} {p : List MemPlace}
theorem ints_of_trod {fuel : Nat} {cs : List Value} {x : DataW H × List MemPlace} (hf : DataW.trod enc Try.prog W base sp held fuel 22 cs = some x) : ∃ u l, cs = [u] ∧ INRow W u l ∧ l.length ≤ 9223372036854775807 := by
  rcases open_slice1 Try.underlying22 cInt hf with ⟨hcs, hx⟩ | ⟨a, len', cap', m, n, V, D, Pl, hcs, _, hl, hm, hmm, hx, hi⟩
  · exact ⟨_, [], hcs, .inl ⟨_, _, rfl, rfl⟩, by simp⟩
  · have hlm : len' ≤ m := by rw [hmm]; split <;> omega
    have hall : ∀ i, i < len' → ∃ q : Int, W.cell? (a.add i) = some (.int .i64 q) := fun i him => by
      obtain ⟨h0, t0⟩ := hi i (by omega)
      obtain ⟨x, e0, _, _⟩ := DataW.trod_int Try.underlying3 t0
      simp at e0
      exact ⟨x, by rw [h0, e0]⟩
    obtain ⟨q, hq⟩ := choose_lt hall
    refine ⟨_, (List.range len').map q, hcs, ?_, by simp; unfold maxLen at hm; omega⟩
    by_cases h0 : len' = 0
    · subst h0; exact .inl ⟨_, _, rfl, rfl⟩
    · have hx0 := hq 0 (by omega)
      have hsp : a.spot = none := by simpa [Addr.add] using World.cell?_spot hx0
      obtain ⟨b, off, spot⟩ := a
      simp only at hsp
      subst hsp
      refine .inr ⟨b, off, cap', by simp, ?_, fun i hil => ?_⟩
      · have hb : ∀ (a : Addr) (u : Value), W.cell? a = some u → a.block < W.heap.size := fun a u h => by
          unfold World.cell? at h
          split at h
          · rename_i hb; exact (Array.getElem?_eq_some_iff.1 hb).1
          · cases h
        have := hb _ _ hx0; simpa [Addr.add] using this
      · simp only [List.length_map, List.length_range] at hil
        have hx1 := hq i hil
        have hadd : (⟨b, off, none⟩ : Addr).add i = ⟨b, off + i, none⟩ := by unfold Addr.add; split <;> simp_all
        rw [hadd] at hx1
        rw [List.getD_eq_getElem?_getD, List.getElem?_map, List.getElem?_range hil]
        exact hx1
set_option maxRecDepth 100000 in
theorem open_map (hv : Value.okWide Try.prog W r b0 24 v) (h : DataW.Trod enc Try.prog W base sp held 24 v d p) :
    ∃ (wd hg : Int) (o : Value) (g : List Int), v = mpV wd hg o ∧ INRow W o g ∧ g.length ≤ 9223372036854775807 := by
  obtain ⟨x0, x1, x2, y0, y1, y2, n, rfl, rfl, rfl, t0, t1, t2⟩ := Go.Joins.open_agg3 Try.underlying24 (by kernel_rfl) (by kernel_rfl) hv h
  obtain ⟨a, e0, _, _⟩ := DataW.trod_int Try.underlying3 t0
  obtain ⟨b, e1, _, _⟩ := DataW.trod_int Try.underlying3 t1
  obtain ⟨u, l, e2, hr, hl⟩ := ints_of_trod t2
  cases e0; cases e1; cases e2
  exact ⟨a, b, x2, l, rfl, hr, hl⟩
end
end Go.Proofs.Ytnacgogcbbpjmaa

/-! What a country reads as. -/
set_option linter.unusedVariables false
set_option linter.unusedSimpArgs false
namespace Go.Proofs.Ytnacgogcbbpjmaa
open Go.ChangeShapes Go.WideShapes Go.ChangeAt Go.RowKit Go.Deep

theorem cTw : Try.prog.cellsOf 48 = 4 := by kernel_rfl
theorem cHz : Try.prog.cellsOf 110 = 3 := by kernel_rfl
theorem cPlc : Try.prog.cellsOf 32 = 2 := by kernel_rfl
theorem cMp : Try.prog.cellsOf 24 = 3 := by kernel_rfl
theorem cTws : Try.prog.cellsOf 25 = 1 := by kernel_rfl
theorem cHzs : Try.prog.cellsOf 26 = 1 := by kernel_rfl
theorem cIns : Try.prog.cellsOf 22 = 1 := by kernel_rfl
section
variable {H : Type} {enc : TypeId × Value → H} {W : World} {r : Reach} {b0 base : Nat} {sp : Nat → Bool} {held : Bool} {v : Value} {d : DataW H} {p : List MemPlace}
theorem block_of_cellC {W : World} {a : Addr} {v : Value} (h : W.cell? a = some v) : a.block < W.heap.size := by
  unfold World.cell? at h
  split at h
  · rename_i hb; exact (Array.getElem?_eq_some_iff.1 hb).1
  · cases h
theorem addr_atC (b off j : Nat) : (⟨b, off, none⟩ : Addr).add j = ⟨b, off + j, none⟩ := by
  unfold Addr.add; split <;> simp_all

set_option maxRecDepth 100000 in
theorem tows_of_trod {fuel : Nat} {cs : List Value} {x : DataW H × List MemPlace} (hf : DataW.trod enc Try.prog W base sp held fuel 25 cs = some x) : ∃ u l, cs = [u] ∧ TwRow W u l ∧ l.length ≤ 9223372036854775807 := by
  rcases open_slice Try.underlying25 hf with ⟨hcs, hx⟩ | ⟨a, len, cap, m, n, D, Pl, hcs, _, hl, hm, hmm, hx, hi⟩
  · exact ⟨_, [], hcs, .inl ⟨_, _, rfl, rfl⟩, by simp⟩
  · have hlm : len ≤ m := by rw [hmm]; split <;> omega
    have hlc : len ≤ cap := by omega
    have : Inhabited Tw := ⟨.nil⟩
    have hall : ∀ i, i < len → ∃ q : Tw, W.cell? (a.add (i * 4)) = some (.int .i64 q.id) ∧ W.cell? (a.add (i * 4 + 1)) = some (.int .i64 q.x) ∧ W.cell? (a.add (i * 4 + 2)) = some (.int .i64 q.y) ∧ W.cell? (a.add (i * 4 + 3)) = some (.int .i64 q.h) := fun i him => by
      obtain ⟨cs', h1, h2⟩ := hi i (by omega)
      rw [cTw] at h1
      obtain ⟨_, hlen, hcell⟩ := World.cells?_some h1
      obtain ⟨y0, y1, y2, k, hxy, _, g0, g1, g2⟩ := trod_struct3 Try.underlying48 h2
      match cs', hlen with
      | [v0, v1, v2, v3], _ =>
        obtain ⟨x0, e0, _, _⟩ := DataW.trod_int Try.underlying3 g0
        obtain ⟨x3, e3, _, _⟩ := DataW.trod_int Try.underlying3 g2
        obtain ⟨z0, z1, k2, _, _, j0, j1⟩ := trod_struct2 Try.underlying32 g1
        obtain ⟨x1, e1, _, _⟩ := DataW.trod_int Try.underlying3 j0
        obtain ⟨x2, e2, _, _⟩ := DataW.trod_int Try.underlying3 j1
        simp only [cInt, cPlc] at e0 e1 e2 e3
        simp at e0 e1 e2 e3
        have c0 := hcell 0 (by omega)
        have c1 := hcell 1 (by omega)
        have c2 := hcell 2 (by omega)
        have c3 := hcell 3 (by omega)
        rw [add_add] at c0 c1 c2 c3
        refine ⟨⟨x0, x1, x2, x3⟩, ?_, ?_, ?_, ?_⟩
        · simpa [e0] using c0
        · simpa [e1] using c1
        · simpa [e2] using c2
        · simpa [e3] using c3
    obtain ⟨q, hq⟩ := choose_lt hall
    refine ⟨_, (List.range len).map q, hcs, ?_, by simp; unfold maxLen at hm; omega⟩
    by_cases h0 : len = 0
    · subst h0; exact .inl ⟨_, _, rfl, rfl⟩
    · have hx0 := (hq 0 (by omega)).1
      have hsp : a.spot = none := by simpa [Addr.add] using World.cell?_spot hx0
      obtain ⟨b, off, spot⟩ := a
      simp only at hsp
      subst hsp
      refine .inr ⟨b, off, cap, by simp, by simpa using hlc, ?_, fun i hil => ?_⟩
      · have := block_of_cellC hx0; simpa [Addr.add] using this
      · simp only [List.length_map, List.length_range] at hil
        obtain ⟨hx1, hx2, hx3, hx4⟩ := hq i hil
        rw [addr_atC] at hx1 hx2 hx3 hx4
        rw [List.getD_eq_getElem?_getD, List.getElem?_map, List.getElem?_range hil]
        exact ⟨hx1, hx2, hx3, hx4⟩

set_option maxRecDepth 100000 in
theorem hazes_of_trod {fuel : Nat} {cs : List Value} {x : DataW H × List MemPlace} (hf : DataW.trod enc Try.prog W base sp held fuel 26 cs = some x) : ∃ u l, cs = [u] ∧ HzRow W u l ∧ l.length ≤ 9223372036854775807 := by
  rcases open_slice Try.underlying26 hf with ⟨hcs, hx⟩ | ⟨a, len, cap, m, n, D, Pl, hcs, _, hl, hm, hmm, hx, hi⟩
  · exact ⟨_, [], hcs, .inl ⟨_, _, rfl, rfl⟩, by simp⟩
  · have hlm : len ≤ m := by rw [hmm]; split <;> omega
    have : Inhabited Hz := ⟨.nil⟩
    have hall : ∀ i, i < len → ∃ q : Hz, W.cell? (a.add (i * 3)) = some (.int .i64 q.fr) ∧ W.cell? (a.add (i * 3 + 1)) = some (.int .i64 q.to) ∧ W.cell? (a.add (i * 3 + 2)) = some (.int .i64 q.far) := fun i him => by
      obtain ⟨cs', h1, h2⟩ := hi i (by omega)
      rw [cHz] at h1
      obtain ⟨_, hlen, hcell⟩ := World.cells?_some h1
      obtain ⟨y0, y1, y2, k, hxy, _, g0, g1, g2⟩ := trod_struct3 Try.underlying110 h2
      match cs', hlen with
      | [v0, v1, v2], _ =>
        obtain ⟨x0, e0, _, _⟩ := DataW.trod_int Try.underlying3 g0
        obtain ⟨x1, e1, _, _⟩ := DataW.trod_int Try.underlying3 g1
        obtain ⟨x2, e2, _, _⟩ := DataW.trod_int Try.underlying3 g2
        simp only [cInt] at e0 e1 e2
        simp at e0 e1 e2
        have c0 := hcell 0 (by omega)
        have c1 := hcell 1 (by omega)
        have c2 := hcell 2 (by omega)
        rw [add_add] at c0 c1 c2
        refine ⟨⟨x0, x1, x2⟩, ?_, ?_, ?_⟩
        · simpa [e0] using c0
        · simpa [e1] using c1
        · simpa [e2] using c2
    obtain ⟨q, hq⟩ := choose_lt hall
    refine ⟨_, (List.range len).map q, hcs, ?_, by simp; unfold maxLen at hm; omega⟩
    by_cases h0 : len = 0
    · subst h0; exact .inl ⟨_, _, rfl, rfl⟩
    · have hx0 := (hq 0 (by omega)).1
      have hsp : a.spot = none := by simpa [Addr.add] using World.cell?_spot hx0
      obtain ⟨b, off, spot⟩ := a
      simp only at hsp
      subst hsp
      refine .inr ⟨b, off, cap, by simp, ?_, fun i hil => ?_⟩
      · have := block_of_cellC hx0; simpa [Addr.add] using this
      · simp only [List.length_map, List.length_range] at hil
        obtain ⟨hx1, hx2, hx3⟩ := hq i hil
        rw [addr_atC] at hx1 hx2 hx3
        rw [List.getD_eq_getElem?_getD, List.getElem?_map, List.getElem?_range hil]
        exact ⟨hx1, hx2, hx3⟩
set_option maxRecDepth 100000 in
theorem open_country (hv : Value.okWide Try.prog W r b0 28 v) (h : DataW.Trod enc Try.prog W base sp held 28 v d p) :
    ∃ (wd hg : Int) (o tv hz : Value) (g : List Int) (T : List Tw) (Z : List Hz), v = coV wd hg o tv hz ∧ INRow W o g ∧ g.length ≤ 9223372036854775807 ∧ TwRow W tv T ∧ T.length ≤ 9223372036854775807 ∧ HzRow W hz Z ∧ Z.length ≤ 9223372036854775807 := by
  obtain ⟨cs, rfl, hsz⟩ := okWide_struct Try.underlying28 hv
  have hC : Try.prog.cellsOf 28 = 5 := by kernel_rfl
  rw [hC] at hsz
  obtain ⟨c0, c1, c2, c3, c4, rfl⟩ : ∃ c0 c1 c2 c3 c4, cs = #[c0, c1, c2, c3, c4] := by
    obtain ⟨l⟩ := cs
    match l, hsz with
    | [a, b, c, d, e], _ => exact ⟨a, b, c, d, e, rfl⟩
  obtain ⟨fuel, hf⟩ := h
  obtain ⟨y0, y1, y2, n, hx, _, h0, h1, h2⟩ := trod_struct3 Try.underlying28 hf
  obtain ⟨z0, z1, z2, n2, _, _, j0, j1, j2⟩ := trod_struct3 Try.underlying24 h0
  obtain ⟨a, e0, _, _⟩ := DataW.trod_int Try.underlying3 j0
  obtain ⟨b, e1, _, _⟩ := DataW.trod_int Try.underlying3 j1
  obtain ⟨u, l, e2, hr, hl⟩ := ints_of_trod j2
  obtain ⟨u3, l3, e3, hr3, hl3⟩ := tows_of_trod h1
  obtain ⟨u4, l4, e4, hr4, hl4⟩ := hazes_of_trod h2
  simp only [cInt, cMp, cIns, cTws, cHzs, Value.cells] at e0 e1 e2 e3 e4
  simp at e0 e1 e2 e3 e4
  subst e0; subst e1; subst e2; subst e3; subst e4
  exact ⟨a, b, _, _, _, l, l3, l4, rfl, hr, hl, hr3, hl3, hr4, hl4⟩
end
end Go.Proofs.Ytnacgogcbbpjmaa
