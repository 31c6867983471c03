/- What the arguments of ridge's statements read as: places and fractions; and the last step of each statement. -/
import Derived.Test.YtjllkmekchmmbaaHA0
import Derived.ProofKit
import Derived.OpenShut
import Derived.Deep.DeepHandedRow
import Derived.Lay
import Derived.Carry
import Derived.Lib.SmallJoins
import Derived.LaidMore
import Derived.Deep.SlicePairs
import Derived.SliceStrings
import Derived.Test.YtjllkmekchmmbaaHA1
set_option linter.unusedVariables false
set_option linter.unusedSimpArgs false
namespace Go.Proofs.Ytjllkmekchmmbaa
open Go.ChangeShapes Go.WideShapes Go.ChangeAt Go.RowKit Go.Deep

theorem own : ownKnob Try.prog.godebug = none := by kernel_rfl
theorem cInt : Try.prog.cellsOf 3 = 1 := by kernel_rfl
/-- The last step of every statement: true, the arguments as they read. -/
theorem post_true {H : Type} {enc : TypeId × Value → H} {f : Func} {s : ChangeSpec} {W W' : World} {args : Array Value} {ds gs : List (DataW H)} {before pa : List MemPlace} (hv : s.vars = []) (hr : f.resultTypes = #[4])
    (hW : DataW.Whole enc Try.prog f.params.toList s.vars false W args.toList ds gs before) (hfn : s.fn H (ds ++ gs) = { results := [.lit (.bool true)], args := ds })
    (hargs : DataW.TrodAll enc Try.prog W' 0 (fun b => decide (b < W.heap.size)) true f.params.toList args.toList ds pa) (hb : Below W.heap.size W W') : s.post enc Try.prog f false true false false W args (.bool true) W' := by
  refine ⟨ds, gs, before, [], pa, [], hW, ?_, ?_, ?_, hb.frame _, fun h => by cases h⟩
  · rw [hfn, hr]; exact trodAll_mk1 (shut_bool Try.underlying4 true)
  · rw [hfn]; exact hargs
  · rw [hfn, hv]; rfl
theorem laidOut : laidOutB Try.prog = true := by kernel_rfl
/-- A world for the witness. -/
noncomputable def laidWorld (os : Os) : World := World.laidAll Try.prog os []
theorem laid_met (os : Os) (args : Array Value) : laidMet Try.prog [] ((laidWorld os).forCall (fun _ _ => 0) ⟨#[], args, []⟩).memory := laidMet_laidAll _ (by kernel_rfl) (by kernel_rfl)
theorem laid_vars (os : Os) (args : Array Value) : ((laidWorld os).forCall (fun _ _ => 0) ⟨#[], args, []⟩).variablesB Try.prog = true := by kernel_rfl
theorem laid_rest (os : Os) (args : Array Value) : ((((laidWorld os).forCall (fun _ _ => 0) ⟨#[], args, []⟩).heap.toList.drop Try.prog.globals.size).take ((begin Try.prog (fun _ _ => 0) default).world.heap.size - Try.prog.globals.size) =
      (begin Try.prog (fun _ _ => 0) default).world.heap.toList.drop Try.prog.globals.size) := by kernel_rfl
section
variable {H : Type} {enc : TypeId × Value → H} {W : World} {r : Reach} {b0 base : Nat} {sp : Nat → Bool} {held : Bool} {v : Value} {d : DataW H} {p : List MemPlace}
set_option maxRecDepth 100000 in
theorem open_frac (hv : Value.okWide Try.prog W r b0 89 v) (h : DataW.Trod enc Try.prog W base sp held 89 v d p) :
    ∃ a b : Int, v = .agg #[.int .i64 a, .int .i64 b] ∧ (-9223372036854775808 ≤ a ∧ a ≤ 9223372036854775807) ∧ (-9223372036854775808 ≤ b ∧ b ≤ 9223372036854775807) := by
  obtain ⟨x0, x1, y0, y1, n, rfl, rfl, rfl, t0, t1⟩ := Go.Joins.open_agg2 Try.underlying89 (by kernel_rfl) (by kernel_rfl) hv h
  obtain ⟨a, e0, _, hw0⟩ := DataW.trod_int Try.underlying3 t0
  obtain ⟨b, e1, _, hw1⟩ := DataW.trod_int Try.underlying3 t1
  cases e0; cases e1
  exact ⟨a, b, rfl, by simpa [Lit.wf, IntKind.min, IntKind.max, IntKind.signed, IntKind.bits] using hw0, by simpa [Lit.wf, IntKind.min, IntKind.max, IntKind.signed, IntKind.bits] using hw1⟩
set_option maxRecDepth 100000 in
theorem open_place (hv : Value.okWide Try.prog W r b0 30 v) (h : DataW.Trod enc Try.prog W base sp held 30 v d p) :
    ∃ a b : Int, v = .agg #[.int .i64 a, .int .i64 b] ∧ (-9223372036854775808 ≤ a ∧ a ≤ 9223372036854775807) ∧ (-9223372036854775808 ≤ b ∧ b ≤ 9223372036854775807) := by
  obtain ⟨x0, x1, y0, y1, n, rfl, rfl, rfl, t0, t1⟩ := Go.Joins.open_agg2 Try.underlying30 (by kernel_rfl) (by kernel_rfl) hv h
  obtain ⟨a, e0, _, hw0⟩ := DataW.trod_int Try.underlying3 t0
  obtain ⟨b, e1, _, hw1⟩ := DataW.trod_int Try.underlying3 t1
  cases e0; cases e1
  exact ⟨a, b, rfl, by simpa [Lit.wf, IntKind.min, IntKind.max, IntKind.signed, IntKind.bits] using hw0, by simpa [Lit.wf, IntKind.min, IntKind.max, IntKind.signed, IntKind.bits] using hw1⟩
set_option maxRecDepth 100000 in
theorem open_cross (hv : Value.okWide Try.prog W r b0 85 v) (h : DataW.Trod enc Try.prog W base sp held 85 v d p) :
    ∃ a b : Int, v = .agg #[.int .i64 a, .int .i64 b] ∧ (-9223372036854775808 ≤ a ∧ a ≤ 9223372036854775807) ∧ (-9223372036854775808 ≤ b ∧ b ≤ 9223372036854775807) := by
  obtain ⟨x0, x1, y0, y1, n, rfl, rfl, rfl, t0, t1⟩ := Go.Joins.open_agg2 Try.underlying85 (by kernel_rfl) (by kernel_rfl) hv h
  obtain ⟨a, e0, _, hw0⟩ := DataW.trod_int Try.underlying3 t0
  obtain ⟨b, e1, _, hw1⟩ := DataW.trod_int Try.underlying3 t1
  cases e0; cases e1
  exact ⟨a, b, rfl, by simpa [Lit.wf, IntKind.min, IntKind.max, IntKind.signed, IntKind.bits] using hw0, by simpa [Lit.wf, IntKind.min, IntKind.max, IntKind.signed, IntKind.bits] using hw1⟩
set_option maxRecDepth 100000 in
theorem int_bound (hv : Value.okWide Try.prog W r b0 3 v) (h : DataW.Trod enc Try.prog W base sp held 3 v d p) : ∃ n : Int, v = .int .i64 n ∧ (-9223372036854775808 ≤ n ∧ n ≤ 9223372036854775807) := by
  obtain ⟨n, rfl, _, _, hw⟩ := open_int Try.underlying3 hv h
  exact ⟨n, rfl, by simpa [Lit.wf, IntKind.min, IntKind.max, IntKind.signed, IntKind.bits] using hw⟩
set_option maxRecDepth 100000 in
theorem open_u8 (hv : Value.okWide Try.prog W r b0 5 v) (h : DataW.Trod enc Try.prog W base sp held 5 v d p) : ∃ n : Int, v = .int .u8 n ∧ 0 ≤ n ∧ n ≤ 255 := by
  obtain ⟨n, rfl, _, _, hw⟩ := open_int Try.underlying5 hv h
  exact ⟨n, rfl, by simpa [Lit.wf, IntKind.min, IntKind.max, IntKind.signed, IntKind.bits] using hw⟩
end
end Go.Proofs.Ytjllkmekchmmbaa

/-! What a map reads as. -/
set_option linter.unusedVariables false
set_option linter.unusedSimpArgs false
namespace Go.Proofs.Ytjllkmekchmmbaa
open Go.ChangeShapes Go.WideShapes Go.ChangeAt Go.RowKit Go.Deep

section
variable {H : Type} {enc : TypeId × Value → H} {W : World} {r : Reach} {b0 base : Nat} {sp : Nat → Bool} {held : Bool} {v : Value} {d : DataW H} {p : List MemPlace}
theorem ints_of_trod {fuel : Nat} {cs : List Value} {x : DataW H × List MemPlace} (hf : DataW.trod enc Try.prog W base sp held fuel 22 cs = some x) : ∃ u l, cs = [u] ∧ INRow W u l ∧ l.length ≤ 9223372036854775807 := by
  rcases open_slice1 Try.underlying22 cInt hf with ⟨hcs, hx⟩ | ⟨a, len', cap', m, n, V, D, Pl, hcs, _, hl, hm, hmm, hx, hi⟩
  · exact ⟨_, [], hcs, .inl ⟨_, _, rfl, rfl⟩, by simp⟩
  · have hlm : len' ≤ m := by rw [hmm]; split <;> omega
    have hall : ∀ i, i < len' → ∃ q : Int, W.cell? (a.add i) = some (.int .i64 q) := fun i him => by
      obtain ⟨h0, t0⟩ := hi i (by omega)
      obtain ⟨x, e0, _, _⟩ := DataW.trod_int Try.underlying3 t0
      simp at e0
      exact ⟨x, by rw [h0, e0]⟩
    obtain ⟨q, hq⟩ := choose_lt hall
    refine ⟨_, (List.range len').map q, hcs, ?_, by simp; unfold maxLen at hm; omega⟩
    by_cases h0 : len' = 0
    · subst h0; exact .inl ⟨_, _, rfl, rfl⟩
    · have hx0 := hq 0 (by omega)
      have hsp : a.spot = none := by simpa [Addr.add] using World.cell?_spot hx0
      obtain ⟨b, off, spot⟩ := a
      simp only at hsp
      subst hsp
      refine .inr ⟨b, off, cap', by simp, ?_, fun i hil => ?_⟩
      · have hb : ∀ (a : Addr) (u : Value), W.cell? a = some u → a.block < W.heap.size := fun a u h => by
          unfold World.cell? at h
          split at h
          · rename_i hb; exact (Array.getElem?_eq_some_iff.1 hb).1
          · cases h
        have := hb _ _ hx0; simpa [Addr.add] using this
      · simp only [List.length_map, List.length_range] at hil
        have hx1 := hq i hil
        have hadd : (⟨b, off, none⟩ : Addr).add i = ⟨b, off + i, none⟩ := by unfold Addr.add; split <;> simp_all
        rw [hadd] at hx1
        rw [List.getD_eq_getElem?_getD, List.getElem?_map, List.getElem?_range hil]
        exact hx1
set_option maxRecDepth 100000 in
theorem open_map (hv : Value.okWide Try.prog W r b0 24 v) (h : DataW.Trod enc Try.prog W base sp held 24 v d p) :
    ∃ (wd hg : Int) (o : Value) (g : List Int), v = mpV wd hg o ∧ INRow W o g ∧ g.length ≤ 9223372036854775807 := by
  obtain ⟨x0, x1, x2, y0, y1, y2, n, rfl, rfl, rfl, t0, t1, t2⟩ := Go.Joins.open_agg3 Try.underlying24 (by kernel_rfl) (by kernel_rfl) hv h
  obtain ⟨a, e0, _, _⟩ := DataW.trod_int Try.underlying3 t0
  obtain ⟨b, e1, _, _⟩ := DataW.trod_int Try.underlying3 t1
  obtain ⟨u, l, e2, hr, hl⟩ := ints_of_trod t2
  cases e0; cases e1; cases e2
  exact ⟨a, b, x2, l, rfl, hr, hl⟩
set_option maxRecDepth 100000 in
theorem open_u16 (hv : Value.okWide Try.prog W r b0 78 v) (h : DataW.Trod enc Try.prog W base sp held 78 v d p) : ∃ n : Int, v = .int .u16 n ∧ 0 ≤ n ∧ n ≤ 65535 := by
  obtain ⟨n, rfl, _, _, hw⟩ := open_int Try.underlying78 hv h
  exact ⟨n, rfl, by simpa [Lit.wf, IntKind.min, IntKind.max, IntKind.signed, IntKind.bits] using hw⟩
end
end Go.Proofs.Ytjllkmekchmmbaa
