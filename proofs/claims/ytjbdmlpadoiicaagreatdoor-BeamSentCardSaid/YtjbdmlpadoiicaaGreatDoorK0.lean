/- What the tied lists give: the package's tables lie as its text lays them. -/
import Derived.Test.YtjbdmlpadoiicaaGreatDoorG0
import Derived.Test.YtjbdmlpadoiicaaGreatDoorCards
import Derived.Test.YtjbdmlpadoiicaaGreatDoorTie
import Derived.ProofKit
import Derived.OpenShut
import Derived.Deep.DeepHandedRow
import Derived.Deep.Strs
import Derived.Lay
import Derived.Carry
import Derived.Lib.SmallJoins
import Derived.LaidMore
import Derived.Test.YtjbdmlpadoiicaaGreatDoorU0
import Derived.Deep.SlicePairs
import Derived.SliceStrings
set_option linter.unusedVariables false
set_option linter.unusedSimpArgs false
namespace Go.Proofs.YtjbdmlpadoiicaaGreatDoor
open Go.ChangeShapes Go.WideShapes Go.ChangeAt Go.RowKit

def laidL : List (String × DataW Unit) := [("unicode/utf8.acceptRanges", Rows.laid_unicode_utf8_acceptRanges), ("firetower/beam.codes", Rows.laid_firetower_beam_codes), ("firetower/beam.parts", Rows.laid_firetower_beam_parts), ("unicode/utf8.first", Rows.laid_unicode_utf8_first)]
theorem own : ownKnob Tryz.prog.godebug = none := by kernel_rfl
theorem gCodes : Tryz.prog.globalNamed "firetower/beam.codes" = some 0 := by kernel_rfl
theorem gParts : Tryz.prog.globalNamed "firetower/beam.parts" = some 3 := by kernel_rfl
theorem tCodes : (Tryz.prog.globals[0]?).map (·.type) = some 152 := by kernel_rfl
theorem tParts : (Tryz.prog.globals[3]?).map (·.type) = some 179 := by kernel_rfl
theorem cStr : Tryz.prog.cellsOf 9 = 1 := by kernel_rfl
theorem cInt : Tryz.prog.cellsOf 3 = 1 := by kernel_rfl
theorem cPart : Tryz.prog.cellsOf 178 = 3 := by kernel_rfl
theorem cCodes : Tryz.prog.cellsOf 152 = 29 := by kernel_rfl
theorem cParts : Tryz.prog.cellsOf 179 = 12 := by kernel_rfl

/-- The cells of an array of strings, out of its reading. -/
theorem strs_of_read {H : Type} {enc : TypeId × Value → H} {P : Program} {w : World} {base : Nat} {sp : Nat → Bool} {held : Bool} {fuel : Nat} {t e : TypeId} {n : Nat} {cs : List Value} {ls : List (List UInt8)} {p : List MemPlace}
    (ht : P.underlying t = some (.array n e)) (he : P.underlying e = some .string) (hce : P.cellsOf e = 1) (hct : P.cellsOf t = n)
    (h : DataW.trod enc P w base sp held fuel t cs = some (.agg (ls.map fun l => .lit (.string l)), p)) : cs = ls.map fun l => Value.string (B l) := by
  obtain ⟨xs, m, rfl, hx, hl, hxl, hel⟩ := DataW.trod_array ht h
  have hx1 : ls.map (fun l => (DataW.lit (.string l) : DataW H)) = xs.map (·.1) := by simpa using congrArg Prod.fst hx
  have hzl : ls.length = n := by have := congrArg List.length hx1; simp at this; omega
  apply List.ext_getElem?
  intro i
  by_cases hi : i < n
  · have h1 := hel i hi
    rw [hce, Nat.mul_one, List.getElem?_eq_getElem (by omega)] at h1
    obtain ⟨s, e1, e2, _⟩ := DataW.trod_string he h1
    have h2 : cs[i]? = some (.string s) := by
      have := congrArg (·[0]?) e1
      simpa [List.getElem?_take, List.getElem?_drop] using this
    have h3 : (ls.map (fun l => (DataW.lit (.string l) : DataW H)))[i]? = some (.lit (.string s.data.toList)) := by
      rw [hx1, List.getElem?_map, List.getElem?_eq_getElem (by omega), Option.map_some, e2]
    rw [List.getElem?_map, List.getElem?_eq_getElem (by omega)] at h3
    simp only [Option.map_some, Option.some.injEq, DataW.lit.injEq, Lit.string.injEq] at h3
    rw [h2, List.getElem?_map, List.getElem?_eq_getElem (by omega), Option.map_some, h3, B_L]
  · rw [List.getElem?_eq_none (by omega), List.getElem?_eq_none (by simp; omega)]

theorem len3 {α : Type} {l : List α} (h : l.length = 3) : ∃ a b c, l = [a, b, c] := by
  match l, h with
  | [a, b, c], _ => exact ⟨a, b, c, rfl⟩
theorem len4 {α : Type} {l : List α} (h : l.length = 4) : ∃ a b c d, l = [a, b, c, d] := by
  match l, h with
  | [a, b, c, d], _ => exact ⟨a, b, c, d, rfl⟩
theorem len12 {α : Type} {l : List α} (h : l.length = 12) : ∃ a b c d a' b' c' d' a'' b'' c'' d'', l = [a, b, c, d, a', b', c', d', a'', b'', c'', d''] := by
  match l, h with
  | [a, b, c, d, a', b', c', d', a'', b'', c'', d''], _ => exact ⟨a, b, c, d, a', b', c', d', a'', b'', c'', d'', rfl⟩
theorem ints3_of_read {H : Type} {enc : TypeId × Value → H} {w : World} {base : Nat} {sp : Nat → Bool} {held : Bool} {fuel : Nat} {cs : List Value} {a b c : Int} {x : DataW H × List MemPlace}
    (h : DataW.trod enc Tryz.prog w base sp held fuel 178 cs = some x) (hx : x.1 = .agg [.lit (.int .i64 a), .lit (.int .i64 b), .lit (.int .i64 c)]) : cs = [.int .i64 a, .int .i64 b, .int .i64 c] := by
  obtain ⟨y0, y1, y2, n, rfl, hl, h0, h1, h2⟩ := Go.Deep.trod_struct3 Tryz.underlying178 h
  obtain ⟨a', e0, e0', _⟩ := DataW.trod_int Tryz.underlying3 h0
  obtain ⟨b', e1, e1', _⟩ := DataW.trod_int Tryz.underlying3 h1
  obtain ⟨c', e2, e2', _⟩ := DataW.trod_int Tryz.underlying3 h2
  rw [cPart] at hl
  simp only [cInt] at e0 e1 e2
  simp only [e0', e1', e2', DataW.agg.injEq, List.cons.injEq, DataW.lit.injEq, Lit.int.injEq, true_and, and_true] at hx
  obtain ⟨rfl, rfl, rfl⟩ := hx
  obtain ⟨u, v, z, rfl⟩ := len3 hl
  simp at e0 e1 e2
  rw [e0, e1, e2]

theorem var_block {P : Program} {w : World} {n : String} {g : Nat} {cs : Array Value} (hg : P.globalNamed n = some g) (h : w.var? P n = some cs) : ∃ fr : TypeId × (Nat × Nat), w.heap[g]? = some (.cells cs fr.1 fr.2) := by
  simp only [World.var?, hg, Option.bind_some] at h
  split at h
  · rename_i c t fr hb
    cases h
    exact ⟨(t, fr), hb⟩
  · cases h

theorem glob_of_laid {W : World} (h : laidMetH Tryz.prog laidL W) : Glob W := by
  rw [MakeChecks.laidMetH_plain _ _ _ (by kernel_rfl)] at h
  obtain ⟨ps, ⟨g0, t0, cs0, f0, p0, q0, hg0, ht0, hv0, hd0, ⟨g1, t1, cs1, f1, p1, q1, hg1, ht1, hv1, hd1, ⟨g2, t2, cs2, f2, p2, q2, hg2, ht2, hv2, hd2, _⟩, _⟩, _⟩, _⟩ := h
  obtain rfl := Option.some.inj (gCodes.symm.trans hg1)
  obtain rfl := Option.some.inj (gParts.symm.trans hg2)
  obtain rfl := Option.some.inj (tCodes.symm.trans ht1)
  obtain rfl := Option.some.inj (tParts.symm.trans ht2)
  have e1 := strs_of_read (ls := codesL) Tryz.underlying152 Tryz.underlying9 cStr cCodes hd1
  obtain ⟨fr1, hb1⟩ := var_block gCodes hv1
  obtain ⟨fr2, hb2⟩ := var_block gParts hv2
  refine ⟨⟨fun v hv => ?_, (Array.getElem?_eq_some_iff.1 hb1).1⟩, fr2, ?_⟩
  · have := World.var?_cell gCodes hv1 v
    rw [this, ← Array.getElem?_toList, e1]
    have hl : codesL.length = 29 := rfl
    simp [codeL, List.getElem?_eq_getElem (show v < codesL.length by omega)]
  · rw [hb2]
    have e2 : cs2 = partsA := by
      obtain ⟨xs, m, rfl, hx, hl, hxl, hel⟩ := DataW.trod_array Tryz.underlying179 hd2
      rw [cParts] at hl
      simp only [cPart] at hel
      have hx1 : xs.map (·.1) = [.agg [.lit (.int .i64 0), .lit (.int .i64 1), .lit (.int .i64 1)], .agg [.lit (.int .i64 1), .lit (.int .i64 1), .lit (.int .i64 0)], .agg [.lit (.int .i64 2), .lit (.int .i64 1), .lit (.int .i64 2)], .agg [.lit (.int .i64 3), .lit (.int .i64 2), .lit (.int .i64 2)]] := by
        have := congrArg Prod.fst hx
        unfold Rows.laid_firetower_beam_parts at this
        exact (DataW.agg.inj this).symm
      obtain ⟨x0, x1, x2, x3, rfl⟩ := len4 hxl
      · simp only [List.map_cons, List.map_nil, List.cons.injEq, and_true] at hx1
        have h0 := ints3_of_read (hel 0 (by decide)) hx1.1
        have h1 := ints3_of_read (hel 1 (by decide)) hx1.2.1
        have h2 := ints3_of_read (hel 2 (by decide)) hx1.2.2.1
        have h3 := ints3_of_read (hel 3 (by decide)) hx1.2.2.2
        apply Array.ext'
        obtain ⟨l⟩ := cs2
        obtain ⟨c0, c1, c2, c3, c4, c5, c6, c7, c8, c9, c10, c11, rfl⟩ := len12 hl
        simp at h0 h1 h2 h3
        simp [partsA, h0, h1, h2, h3]
    rw [e2]

/-- The last step of every statement: true, the arguments as they read. -/
theorem post_true {H : Type} {enc : TypeId × Value → H} {f : Func} {s : ChangeSpec} {W W' : World} {args : Array Value} {ds gs : List (DataW H)} {before pa : List MemPlace} (hv : s.vars = []) (hr : f.resultTypes = #[4])
    (hW : DataW.Whole enc Tryz.prog f.params.toList s.vars false W args.toList ds gs before) (hfn : s.fn H (ds ++ gs) = { results := [.lit (.bool true)], args := ds })
    (hargs : DataW.TrodAll enc Tryz.prog W' 0 (fun b => decide (b < W.heap.size)) true f.params.toList args.toList ds pa) (hb : Below W.heap.size W W') : s.post enc Tryz.prog f false true false false W args (.bool true) W' := by
  refine ⟨ds, gs, before, [], pa, [], hW, ?_, ?_, ?_, hb.frame _, fun h => by cases h⟩
  · rw [hfn, hr]; exact trodAll_mk1 (shut_bool Tryz.underlying4 true)
  · rw [hfn]; exact hargs
  · rw [hfn, hv]; rfl
theorem laidOut : laidOutB Tryz.prog = true := by kernel_rfl

/-- A world for the witness. -/
noncomputable def laidWorld (os : Os) : World := World.laidAll Tryz.prog os laidL
theorem laid_met (os : Os) (args : Array Value) : laidMet Tryz.prog laidL ((laidWorld os).forCall (fun _ _ => 0) ⟨#[], args, []⟩).memory := laidMet_laidAll _ (by kernel_rfl) (by kernel_rfl)
theorem laid_vars (os : Os) (args : Array Value) : ((laidWorld os).forCall (fun _ _ => 0) ⟨#[], args, []⟩).variablesB Tryz.prog = true := by kernel_rfl
end Go.Proofs.YtjbdmlpadoiicaaGreatDoor

/-! What the arguments of the statements read as. -/
namespace Go.Proofs.YtjbdmlpadoiicaaGreatDoor
open Go.ChangeShapes Go.WideShapes Go.ChangeAt Go.RowKit
section
variable {H : Type} {enc : TypeId × Value → H} {W : World} {r : Reach} {b0 base : Nat} {sp : Nat → Bool} {held : Bool} {v : Value} {d : DataW H} {p : List MemPlace}
set_option maxRecDepth 100000 in
theorem open_byte (hv : Value.okWide Tryz.prog W r b0 5 v) (h : DataW.Trod enc Tryz.prog W base sp held 5 v d p) : ∃ c : UInt8, v = .int .u8 c.toNat := by
  obtain ⟨n, rfl, _, _, hw⟩ := open_int Tryz.underlying5 hv h
  have hx : 0 ≤ n ∧ n ≤ 255 := by simpa [Lit.wf, IntKind.min, IntKind.max, IntKind.signed, IntKind.bits] using hw
  refine ⟨UInt8.ofNat n.toNat, ?_⟩
  congr 1
  have : (UInt8.ofNat n.toNat).toNat = n.toNat := by simp; omega
  omega
set_option maxRecDepth 100000 in
theorem open_telegram (hv : Value.okWide Tryz.prog W r b0 73 v) (h : DataW.Trod enc Tryz.prog W base sp held 73 v d p) :
    ∃ (a b : Int) (s : ByteArray), v = .agg #[.int .i64 a, .int .i64 b, .string s] ∧ s.size ≤ maxLen := by
  obtain ⟨x0, x1, x2, y0, y1, y2, n, rfl, rfl, rfl, t0, t1, t2⟩ := Go.Joins.open_agg3 Tryz.underlying73 (by kernel_rfl) (by kernel_rfl) hv h
  obtain ⟨a, e0, _, _⟩ := DataW.trod_int Tryz.underlying3 t0
  obtain ⟨b, e1, _, _⟩ := DataW.trod_int Tryz.underlying3 t1
  obtain ⟨s, e2, _, hs⟩ := DataW.trod_string Tryz.underlying9 t2
  cases e0; cases e1; cases e2
  exact ⟨a, b, s, rfl, hs⟩
set_option maxRecDepth 100000 in
theorem open_fault (hv : Value.okWide Tryz.prog W r b0 66 v) (h : DataW.Trod enc Tryz.prog W base sp held 66 v d p) :
    ∃ a b : Int, v = .agg #[.int .i64 a, .int .i64 b] := by
  obtain ⟨x0, x1, y0, y1, n, rfl, rfl, rfl, t0, t1⟩ := Go.Joins.open_agg2 Tryz.underlying66 (by kernel_rfl) (by kernel_rfl) hv h
  obtain ⟨a, e0, _, _⟩ := DataW.trod_int Tryz.underlying3 t0
  obtain ⟨b, e1, _, _⟩ := DataW.trod_int Tryz.underlying3 t1
  cases e0; cases e1
  exact ⟨a, b, rfl⟩
end
theorem looks_no : false = Tryz.pinned.checked.prog.looks [] := by kernel_rfl
theorem laid_rest (os : Os) (args : Array Value) : ((((laidWorld os).forCall (fun _ _ => 0) ⟨#[], args, []⟩).heap.toList.drop Tryz.prog.globals.size).take ((begin Tryz.prog (fun _ _ => 0) default).world.heap.size - Tryz.prog.globals.size) =
      (begin Tryz.prog (fun _ _ => 0) default).world.heap.toList.drop Tryz.prog.globals.size) := by kernel_rfl
end Go.Proofs.YtjbdmlpadoiicaaGreatDoor

/-! What the arguments of the statements read as: slices of faults and of strings. -/
namespace Go.Proofs.YtjbdmlpadoiicaaGreatDoor
open Go.ChangeShapes Go.WideShapes Go.ChangeAt Go.RowKit Go.Deep
theorem cFault : Tryz.prog.cellsOf 66 = 2 := by kernel_rfl
theorem block_of_cell {W : World} {a : Addr} {v : Value} (h : W.cell? a = some v) : a.block < W.heap.size := by
  unfold World.cell? at h
  split at h
  · rename_i hb; exact (Array.getElem?_eq_some_iff.1 hb).1
  · cases h
section
variable {H : Type} {enc : TypeId × Value → H} {W : World} {r : Reach} {b0 base : Nat} {sp : Nat → Bool} {held : Bool} {v : Value} {d : DataW H} {p : List MemPlace}
set_option maxRecDepth 100000 in
theorem open_faults (hv : Value.okWide Tryz.prog W r b0 56 v) (h : DataW.Trod enc Tryz.prog W base sp held 56 v d p) :
    ∃ l : List Flt, FRow W v l ∧ ∀ a n c, v = .slice a n c → n ≤ c := by
  obtain ⟨a0, len, cap, rfl⟩ := okWide_slice Tryz.underlying56 hv
  obtain ⟨fuel, hf⟩ := h
  rcases open_slice_pairs Tryz.underlying56 Tryz.underlying66 cFault rfl rfl cInt cInt hf with ⟨hcs, hx⟩ | ⟨a, len', cap', m, n, V0, V1, D0, D1, P0, P1, hcs, _, hl, hm, hmm, hx, hi⟩
  · simp [Value.cells] at hcs
    obtain ⟨rfl, rfl, rfl⟩ := hcs
    exact ⟨[], .inl ⟨_, _, rfl, rfl⟩, fun a n c e => by cases e; omega⟩
  · simp [Value.cells] at hcs
    obtain ⟨rfl, rfl, rfl⟩ := hcs
    have hlm : len ≤ m := by rw [hmm]; split <;> omega
    have hall : ∀ i, i < len → ∃ x y : Int, W.cell? (a.add (i * 2)) = some (.int .i64 x) ∧ W.cell? (a.add (i * 2 + 1)) = some (.int .i64 y) := fun i him => by
      obtain ⟨h0, h1, t0, t1⟩ := hi i (by omega)
      obtain ⟨x, e0, _, _⟩ := DataW.trod_int Tryz.underlying3 t0
      obtain ⟨y, e1, _, _⟩ := DataW.trod_int Tryz.underlying3 t1
      simp at e0 e1
      exact ⟨x, y, by rw [h0, e0], by rw [h1, e1]⟩
    refine ⟨(List.range len).map fun i => (match W.cell? (a.add (i * 2)), W.cell? (a.add (i * 2 + 1)) with | some (.int _ x), some (.int _ y) => (x, y) | _, _ => (0, 0)), ?_, fun a n c e => by cases e; exact hl⟩
    by_cases h0 : len = 0
    · subst h0; exact .inl ⟨_, _, rfl, rfl⟩
    · obtain ⟨x, y, hx0, hy0⟩ := hall 0 (by omega)
      have hsp : a.spot = none := by simpa [Addr.add] using World.cell?_spot hx0
      obtain ⟨b, off, spot⟩ := a
      simp only at hsp
      subst hsp
      refine .inr ⟨b, off, cap, by simp, ?_, fun i hil => ?_⟩
      · have := block_of_cell hx0; simpa [Addr.add] using this
      · simp only [List.length_map, List.length_range] at hil
        obtain ⟨x, y, hx1, hy1⟩ := hall i hil
        have ex : (⟨b, off, none⟩ : Addr).add (i * 2) = ⟨b, off + i * 2, none⟩ := by unfold Addr.add; split <;> simp_all
        have ey : (⟨b, off, none⟩ : Addr).add (i * 2 + 1) = ⟨b, off + i * 2 + 1, none⟩ := by unfold Addr.add; rw [if_neg (by omega)]; rfl
        have eg : ((List.range len).map fun i => (match W.cell? ((⟨b, off, none⟩ : Addr).add (i * 2)), W.cell? ((⟨b, off, none⟩ : Addr).add (i * 2 + 1)) with | some (.int _ x), some (.int _ y) => (x, y) | _, _ => (0, 0))).getD i (0, 0) = (x, y) := by
          rw [List.getD_eq_getElem?_getD, List.getElem?_map, List.getElem?_range hil]
          simp only [Option.map_some, Option.getD_some, hx1, hy1]
        rw [eg, ← ex, ← ey]
        exact ⟨hx1, hy1⟩
set_option maxRecDepth 100000 in
theorem open_texts (hv : Value.okWide Tryz.prog W r b0 41 v) (h : DataW.Trod enc Tryz.prog W base sp held 41 v d p) :
    ∃ l : List (List UInt8), SRow W v l ∧ (∀ s ∈ l, s.length ≤ maxLen) ∧ ∀ a n c, v = .slice a n c → n ≤ c := by
  obtain ⟨a0, len, cap, rfl⟩ := okWide_slice Tryz.underlying41 hv
  obtain ⟨fuel, hf⟩ := h
  rcases open_strings Tryz.underlying41 Tryz.underlying9 cStr hf with ⟨hcs, hx⟩ | ⟨a, len', cap', ss, hcs, _, hl, hm, hz, hx, hcell, hsz⟩
  · simp [Value.cells] at hcs
    obtain ⟨rfl, rfl, rfl⟩ := hcs
    exact ⟨[], .inl ⟨_, _, rfl, rfl⟩, by simp, fun a n c e => by cases e; omega⟩
  · simp [Value.cells] at hcs
    obtain ⟨rfl, rfl, rfl⟩ := hcs
    have hlm : len ≤ ss.length := by rw [hz]; split <;> omega
    refine ⟨(ss.take len).map fun s => s.data.toList, ?_, fun s hs => ?_, fun a n c e => by cases e; exact hl⟩
    · by_cases h0 : len = 0
      · subst h0; exact .inl ⟨_, _, rfl, by simp⟩
      · have hx0 := hcell 0 (by omega)
        have hsp : a.spot = none := by simpa [Addr.add] using World.cell?_spot hx0
        obtain ⟨b, off, spot⟩ := a
        simp only at hsp
        subst hsp
        have hlen : ((ss.take len).map fun s => s.data.toList).length = len := by simp; omega
        refine .inr ⟨b, off, cap, by rw [hlen], ?_, fun i hil => ?_⟩
        · have := block_of_cell hx0; simpa [Addr.add] using this
        · rw [hlen] at hil
          have hx1 := hcell i (by omega)
          have ex : (⟨b, off, none⟩ : Addr).add i = ⟨b, off + i, none⟩ := by unfold Addr.add; split <;> simp_all
          rw [ex] at hx1
          rw [hx1]
          have e1 : ((ss.take len).map fun s => s.data.toList).getD i [] = ss[i].data.toList := by
            rw [List.getD_eq_getElem?_getD, List.getElem?_map, List.getElem?_take_of_lt hil, List.getElem?_eq_getElem (by omega)]; rfl
          rw [e1, B_L, List.getD_eq_getElem?_getD, List.getElem?_eq_getElem (by omega)]; rfl
    · obtain ⟨t, ht, rfl⟩ := List.mem_map.1 hs
      exact hsz t (List.mem_of_mem_take ht)
end
end Go.Proofs.YtjbdmlpadoiicaaGreatDoor
