/- What the tied lists of the statements on books give. -/
import Derived.Test.YtjbdmlpadoiicaaGreatDoorK0
import Derived.Test.YtjbdmlpadoiicaaGreatDoorY0
set_option linter.unusedVariables false
set_option linter.unusedSimpArgs false
namespace Go.Proofs.YtjbdmlpadoiicaaGreatDoor
open Go.ChangeShapes Go.WideShapes Go.ChangeAt Go.RowKit

def laidL6 : List (String × DataW Unit) := [("math/bits.deBruijn32tab", Rows.laid_math_bits_deBruijn32tab), ("math/bits.deBruijn64tab", Rows.laid_math_bits_deBruijn64tab), ("unicode/utf8.acceptRanges", Rows.laid_unicode_utf8_acceptRanges), ("firetower/beam.codes", Rows.laid_firetower_beam_codes), ("firetower/beam.parts", Rows.laid_firetower_beam_parts), ("unicode/utf8.first", Rows.laid_unicode_utf8_first)]
def tzL : List Int := [0, 1, 56, 2, 57, 49, 28, 3, 61, 58, 42, 50, 38, 29, 17, 4, 62, 47, 59, 36, 45, 43, 51, 22, 53, 39, 33, 30, 24, 18, 12, 5, 63, 55, 48, 27, 60, 41, 37, 16, 46, 35, 44, 21, 52, 32, 23, 11, 54, 26, 40, 15, 34, 20, 31, 10, 25, 14, 19, 9, 13, 8, 7, 6]
theorem gTz : Tryz.prog.globalNamed "math/bits.deBruijn64tab" = some 2 := by kernel_rfl
theorem tTz : (Tryz.prog.globals[2]?).map (·.type) = some 175 := by kernel_rfl
theorem cU8 : Tryz.prog.cellsOf 5 = 1 := by kernel_rfl
theorem cTz : Tryz.prog.cellsOf 175 = 64 := by kernel_rfl
theorem ints_of_read {H : Type} {enc : TypeId × Value → H} {P : Program} {w : World} {base : Nat} {sp : Nat → Bool} {held : Bool} {fuel : Nat} {t e : TypeId} {n : Nat} {q : IntKind} {cs : List Value} {ls : List Int} {p : List MemPlace}
    (ht : P.underlying t = some (.array n e)) (he : P.underlying e = some (.int q)) (hce : P.cellsOf e = 1) (hct : P.cellsOf t = n)
    (h : DataW.trod enc P w base sp held fuel t cs = some (.agg (ls.map fun l => .lit (.int q l)), p)) : cs = ls.map fun l => Value.int q l := by
  obtain ⟨xs, m, rfl, hx, hl, hxl, hel⟩ := DataW.trod_array ht h
  have hx1 : ls.map (fun l => (DataW.lit (.int q l) : DataW H)) = xs.map (·.1) := by simpa using congrArg Prod.fst hx
  have hzl : ls.length = n := by have := congrArg List.length hx1; simp at this; omega
  apply List.ext_getElem?
  intro i
  by_cases hi : i < n
  · have h1 := hel i hi
    rw [hce, Nat.mul_one, List.getElem?_eq_getElem (by omega)] at h1
    obtain ⟨s, e1, e2, _⟩ := DataW.trod_int he h1
    have h2 : cs[i]? = some (.int q s) := by
      have := congrArg (·[0]?) e1
      simpa [List.getElem?_take, List.getElem?_drop] using this
    have h3 : (ls.map (fun l => (DataW.lit (.int q l) : DataW H)))[i]? = some (.lit (.int q s)) := by
      rw [hx1, List.getElem?_map, List.getElem?_eq_getElem (by omega), Option.map_some, e2]
    rw [List.getElem?_map, List.getElem?_eq_getElem (by omega)] at h3
    simp only [Option.map_some, Option.some.injEq, DataW.lit.injEq, Lit.int.injEq, true_and] at h3
    rw [h2, List.getElem?_map, List.getElem?_eq_getElem (by omega), Option.map_some, h3]
  · rw [List.getElem?_eq_none (by omega), List.getElem?_eq_none (by simp; omega)]

theorem tz_of_laid {W : World} (h : laidMetH Tryz.prog laidL6 W) : Tz W := by
  rw [MakeChecks.laidMetH_plain _ _ _ (by kernel_rfl)] at h
  obtain ⟨ps, ⟨g0, t0, cs0, f0, p0, q0, hg0, ht0, hv0, hd0, ⟨g1, t1, cs1, f1, p1, q1, hg1, ht1, hv1, hd1, _⟩, _⟩, _⟩ := h
  obtain rfl := Option.some.inj (gTz.symm.trans hg1)
  obtain rfl := Option.some.inj (tTz.symm.trans ht1)
  have e1 := ints_of_read (ls := tzL) Tryz.underlying175 Tryz.underlying5 cU8 cTz hd1
  obtain ⟨fr1, hb1⟩ := var_block gTz hv1
  have hc : ∀ k, W.cell? ⟨2, k, none⟩ = (tzL.map fun l => Value.int .u8 l)[k]? := fun k => by
    rw [World.var?_cell gTz hv1 k, ← Array.getElem?_toList, e1]
  exact ⟨(Array.getElem?_eq_some_iff.1 hb1).1, hc 0, hc 1, hc 3, hc 7⟩
theorem glob_of_laid6 {W : World} (h : laidMetH Tryz.prog laidL6 W) : Glob W := by
  rw [MakeChecks.laidMetH_plain _ _ _ (by kernel_rfl)] at h
  obtain ⟨ps, ⟨g0, t0, cs0, f0, p0, q0, hg0, ht0, hv0, hd0, ⟨g1, t1, cs1, f1, p1, q1, hg1, ht1, hv1, hd1, ⟨g2, t2, cs2, f2, p2, q2, hg2, ht2, hv2, hd2, ⟨g3, t3, cs3, f3, p3, q3, hg3, ht3, hv3, hd3, ⟨g4, t4, cs4, f4, p4, q4, hg4, ht4, hv4, hd4, _⟩, _⟩, _⟩, _⟩, _⟩, _⟩ := h
  obtain rfl := Option.some.inj (gCodes.symm.trans hg3)
  obtain rfl := Option.some.inj (gParts.symm.trans hg4)
  obtain rfl := Option.some.inj (tCodes.symm.trans ht3)
  obtain rfl := Option.some.inj (tParts.symm.trans ht4)
  have e1 := strs_of_read (ls := codesL) Tryz.underlying152 Tryz.underlying9 cStr cCodes hd3
  obtain ⟨fr1, hb1⟩ := var_block gCodes hv3
  obtain ⟨fr2, hb2⟩ := var_block gParts hv4
  refine ⟨⟨fun v hv => ?_, (Array.getElem?_eq_some_iff.1 hb1).1⟩, fr2, ?_⟩
  · have := World.var?_cell gCodes hv3 v
    rw [this, ← Array.getElem?_toList, e1]
    have hl : codesL.length = 29 := rfl
    simp [codeL, List.getElem?_eq_getElem (show v < codesL.length by omega)]
  · rw [hb2]
    have e2 : cs4 = partsA := by
      obtain ⟨xs, m, rfl, hx, hl, hxl, hel⟩ := DataW.trod_array Tryz.underlying179 hd4
      rw [cParts] at hl
      simp only [cPart] at hel
      have hx1 : xs.map (·.1) = [.agg [.lit (.int .i64 0), .lit (.int .i64 1), .lit (.int .i64 1)], .agg [.lit (.int .i64 1), .lit (.int .i64 1), .lit (.int .i64 0)], .agg [.lit (.int .i64 2), .lit (.int .i64 1), .lit (.int .i64 2)], .agg [.lit (.int .i64 3), .lit (.int .i64 2), .lit (.int .i64 2)]] := by
        have := congrArg Prod.fst hx
        unfold Rows.laid_firetower_beam_parts at this
        exact (DataW.agg.inj this).symm
      obtain ⟨x0, x1, x2, x3, rfl⟩ := len4 hxl
      · simp only [List.map_cons, List.map_nil, List.cons.injEq, and_true] at hx1
        have h0 := ints3_of_read (hel 0 (by decide)) hx1.1
        have h1 := ints3_of_read (hel 1 (by decide)) hx1.2.1
        have h2 := ints3_of_read (hel 2 (by decide)) hx1.2.2.1
        have h3 := ints3_of_read (hel 3 (by decide)) hx1.2.2.2
        apply Array.ext'
        obtain ⟨l⟩ := cs4
        obtain ⟨c0, c1, c2, c3, c4, c5, c6, c7, c8, c9, c10, c11, rfl⟩ := len12 hl
        simp at h0 h1 h2 h3
        simp [partsA, h0, h1, h2, h3]
    rw [e2]
noncomputable def laidWorld6 (os : Os) : World := World.laidAll Tryz.prog os laidL6
theorem laid_met6 (os : Os) (args : Array Value) : laidMet Tryz.prog laidL6 ((laidWorld6 os).forCall (fun _ _ => 0) ⟨#[], args, []⟩).memory := laidMet_laidAll _ (by kernel_rfl) (by kernel_rfl)
theorem laid_vars6 (os : Os) (args : Array Value) : ((laidWorld6 os).forCall (fun _ _ => 0) ⟨#[], args, []⟩).variablesB Tryz.prog = true := by kernel_rfl
theorem laid_rest6 (os : Os) (args : Array Value) : ((((laidWorld6 os).forCall (fun _ _ => 0) ⟨#[], args, []⟩).heap.toList.drop Tryz.prog.globals.size).take ((begin Tryz.prog (fun _ _ => 0) default).world.heap.size - Tryz.prog.globals.size) =
      (begin Tryz.prog (fun _ _ => 0) default).world.heap.toList.drop Tryz.prog.globals.size) := by kernel_rfl
section
variable {H : Type} {enc : TypeId × Value → H} {W : World} {base b0 : Nat} {sp : Nat → Bool} {held : Bool} {v : Value} {d : DataW H} {p : List MemPlace}
set_option maxRecDepth 100000 in
theorem texts_cap {r : Reach} (hv : Value.okWide Tryz.prog W r b0 41 v) (h : DataW.Trod enc Tryz.prog W base sp held 41 v d p) : ∀ a n c, v = .slice a n c → c ≤ maxLen := by
  obtain ⟨a0, len, cap, rfl⟩ := okWide_slice Tryz.underlying41 hv
  obtain ⟨fuel, hf⟩ := h
  rcases open_strings Tryz.underlying41 Tryz.underlying9 cStr hf with ⟨hcs, hx⟩ | ⟨a, len', cap', ss, hcs, _, hl, hm, hz, hx, hcell, hsz⟩
  · simp [Value.cells] at hcs
    obtain ⟨rfl, rfl, rfl⟩ := hcs
    intro a n c e; cases e; exact Nat.zero_le _
  · simp [Value.cells] at hcs
    obtain ⟨rfl, rfl, rfl⟩ := hcs
    intro a n c e; cases e; exact hm
end
end Go.Proofs.YtjbdmlpadoiicaaGreatDoor
