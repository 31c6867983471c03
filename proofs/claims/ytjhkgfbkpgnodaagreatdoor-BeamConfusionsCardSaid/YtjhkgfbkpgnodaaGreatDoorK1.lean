/- What the arguments of the statements read as. -/
import Derived.Test.YtjhkgfbkpgnodaaGreatDoorK0
import Derived.Test.YtjhkgfbkpgnodaaGreatDoorU0
import Derived.Deep.SlicePairs
import Derived.SliceStrings
namespace Go.Proofs.YtjhkgfbkpgnodaaGreatDoor
open Go.ChangeShapes Go.WideShapes Go.ChangeAt Go.RowKit
section
variable {H : Type} {enc : TypeId × Value → H} {W : World} {r : Reach} {b0 base : Nat} {sp : Nat → Bool} {held : Bool} {v : Value} {d : DataW H} {p : List MemPlace}
set_option maxRecDepth 100000 in
theorem open_byte (hv : Value.okWide Tryz.prog W r b0 5 v) (h : DataW.Trod enc Tryz.prog W base sp held 5 v d p) : ∃ c : UInt8, v = .int .u8 c.toNat := by
  obtain ⟨n, rfl, _, _, hw⟩ := open_int Tryz.underlying5 hv h
  have hx : 0 ≤ n ∧ n ≤ 255 := by simpa [Lit.wf, IntKind.min, IntKind.max, IntKind.signed, IntKind.bits] using hw
  refine ⟨UInt8.ofNat n.toNat, ?_⟩
  congr 1
  have : (UInt8.ofNat n.toNat).toNat = n.toNat := by simp; omega
  omega
set_option maxRecDepth 100000 in
theorem open_telegram (hv : Value.okWide Tryz.prog W r b0 73 v) (h : DataW.Trod enc Tryz.prog W base sp held 73 v d p) :
    ∃ (a b : Int) (s : ByteArray), v = .agg #[.int .i64 a, .int .i64 b, .string s] ∧ s.size ≤ maxLen := by
  obtain ⟨x0, x1, x2, y0, y1, y2, n, rfl, rfl, rfl, t0, t1, t2⟩ := Go.Joins.open_agg3 Tryz.underlying73 (by kernel_rfl) (by kernel_rfl) hv h
  obtain ⟨a, e0, _, _⟩ := DataW.trod_int Tryz.underlying3 t0
  obtain ⟨b, e1, _, _⟩ := DataW.trod_int Tryz.underlying3 t1
  obtain ⟨s, e2, _, hs⟩ := DataW.trod_string Tryz.underlying9 t2
  cases e0; cases e1; cases e2
  exact ⟨a, b, s, rfl, hs⟩
set_option maxRecDepth 100000 in
theorem open_fault (hv : Value.okWide Tryz.prog W r b0 66 v) (h : DataW.Trod enc Tryz.prog W base sp held 66 v d p) :
    ∃ a b : Int, v = .agg #[.int .i64 a, .int .i64 b] := by
  obtain ⟨x0, x1, y0, y1, n, rfl, rfl, rfl, t0, t1⟩ := Go.Joins.open_agg2 Tryz.underlying66 (by kernel_rfl) (by kernel_rfl) hv h
  obtain ⟨a, e0, _, _⟩ := DataW.trod_int Tryz.underlying3 t0
  obtain ⟨b, e1, _, _⟩ := DataW.trod_int Tryz.underlying3 t1
  cases e0; cases e1
  exact ⟨a, b, rfl⟩
end
theorem looks_no : false = Tryz.pinned.checked.prog.looks [] := by kernel_rfl
theorem laid_rest (os : Os) (args : Array Value) : ((((laidWorld os).forCall (fun _ _ => 0) ⟨#[], args, []⟩).heap.toList.drop Tryz.prog.globals.size).take ((begin Tryz.prog (fun _ _ => 0) default).world.heap.size - Tryz.prog.globals.size) =
      (begin Tryz.prog (fun _ _ => 0) default).world.heap.toList.drop Tryz.prog.globals.size) := by kernel_rfl
end Go.Proofs.YtjhkgfbkpgnodaaGreatDoor

/-! What the arguments of the statements read as: slices of faults and of strings. -/
namespace Go.Proofs.YtjhkgfbkpgnodaaGreatDoor
open Go.ChangeShapes Go.WideShapes Go.ChangeAt Go.RowKit Go.Deep
theorem cFault : Tryz.prog.cellsOf 66 = 2 := by kernel_rfl
theorem block_of_cell {W : World} {a : Addr} {v : Value} (h : W.cell? a = some v) : a.block < W.heap.size := by
  unfold World.cell? at h
  split at h
  · rename_i hb; exact (Array.getElem?_eq_some_iff.1 hb).1
  · cases h
section
variable {H : Type} {enc : TypeId × Value → H} {W : World} {r : Reach} {b0 base : Nat} {sp : Nat → Bool} {held : Bool} {v : Value} {d : DataW H} {p : List MemPlace}
set_option maxRecDepth 100000 in
theorem open_faults (hv : Value.okWide Tryz.prog W r b0 56 v) (h : DataW.Trod enc Tryz.prog W base sp held 56 v d p) :
    ∃ l : List Flt, FRow W v l ∧ ∀ a n c, v = .slice a n c → n ≤ c := by
  obtain ⟨a0, len, cap, rfl⟩ := okWide_slice Tryz.underlying56 hv
  obtain ⟨fuel, hf⟩ := h
  rcases open_slice_pairs Tryz.underlying56 Tryz.underlying66 cFault rfl rfl cInt cInt hf with ⟨hcs, hx⟩ | ⟨a, len', cap', m, n, V0, V1, D0, D1, P0, P1, hcs, _, hl, hm, hmm, hx, hi⟩
  · simp [Value.cells] at hcs
    obtain ⟨rfl, rfl, rfl⟩ := hcs
    exact ⟨[], .inl ⟨_, _, rfl, rfl⟩, fun a n c e => by cases e; omega⟩
  · simp [Value.cells] at hcs
    obtain ⟨rfl, rfl, rfl⟩ := hcs
    have hlm : len ≤ m := by rw [hmm]; split <;> omega
    have hall : ∀ i, i < len → ∃ x y : Int, W.cell? (a.add (i * 2)) = some (.int .i64 x) ∧ W.cell? (a.add (i * 2 + 1)) = some (.int .i64 y) := fun i him => by
      obtain ⟨h0, h1, t0, t1⟩ := hi i (by omega)
      obtain ⟨x, e0, _, _⟩ := DataW.trod_int Tryz.underlying3 t0
      obtain ⟨y, e1, _, _⟩ := DataW.trod_int Tryz.underlying3 t1
      simp at e0 e1
      exact ⟨x, y, by rw [h0, e0], by rw [h1, e1]⟩
    refine ⟨(List.range len).map fun i => (match W.cell? (a.add (i * 2)), W.cell? (a.add (i * 2 + 1)) with | some (.int _ x), some (.int _ y) => (x, y) | _, _ => (0, 0)), ?_, fun a n c e => by cases e; exact hl⟩
    by_cases h0 : len = 0
    · subst h0; exact .inl ⟨_, _, rfl, rfl⟩
    · obtain ⟨x, y, hx0, hy0⟩ := hall 0 (by omega)
      have hsp : a.spot = none := by simpa [Addr.add] using World.cell?_spot hx0
      obtain ⟨b, off, spot⟩ := a
      simp only at hsp
      subst hsp
      refine .inr ⟨b, off, cap, by simp, ?_, fun i hil => ?_⟩
      · have := block_of_cell hx0; simpa [Addr.add] using this
      · simp only [List.length_map, List.length_range] at hil
        obtain ⟨x, y, hx1, hy1⟩ := hall i hil
        have ex : (⟨b, off, none⟩ : Addr).add (i * 2) = ⟨b, off + i * 2, none⟩ := by unfold Addr.add; split <;> simp_all
        have ey : (⟨b, off, none⟩ : Addr).add (i * 2 + 1) = ⟨b, off + i * 2 + 1, none⟩ := by unfold Addr.add; rw [if_neg (by omega)]; rfl
        have eg : ((List.range len).map fun i => (match W.cell? ((⟨b, off, none⟩ : Addr).add (i * 2)), W.cell? ((⟨b, off, none⟩ : Addr).add (i * 2 + 1)) with | some (.int _ x), some (.int _ y) => (x, y) | _, _ => (0, 0))).getD i (0, 0) = (x, y) := by
          rw [List.getD_eq_getElem?_getD, List.getElem?_map, List.getElem?_range hil]
          simp only [Option.map_some, Option.getD_some, hx1, hy1]
        rw [eg, ← ex, ← ey]
        exact ⟨hx1, hy1⟩
set_option maxRecDepth 100000 in
theorem open_texts (hv : Value.okWide Tryz.prog W r b0 41 v) (h : DataW.Trod enc Tryz.prog W base sp held 41 v d p) :
    ∃ l : List (List UInt8), SRow W v l ∧ (∀ s ∈ l, s.length ≤ maxLen) ∧ ∀ a n c, v = .slice a n c → n ≤ c := by
  obtain ⟨a0, len, cap, rfl⟩ := okWide_slice Tryz.underlying41 hv
  obtain ⟨fuel, hf⟩ := h
  rcases open_strings Tryz.underlying41 Tryz.underlying9 cStr hf with ⟨hcs, hx⟩ | ⟨a, len', cap', ss, hcs, _, hl, hm, hz, hx, hcell, hsz⟩
  · simp [Value.cells] at hcs
    obtain ⟨rfl, rfl, rfl⟩ := hcs
    exact ⟨[], .inl ⟨_, _, rfl, rfl⟩, by simp, fun a n c e => by cases e; omega⟩
  · simp [Value.cells] at hcs
    obtain ⟨rfl, rfl, rfl⟩ := hcs
    have hlm : len ≤ ss.length := by rw [hz]; split <;> omega
    refine ⟨(ss.take len).map fun s => s.data.toList, ?_, fun s hs => ?_, fun a n c e => by cases e; exact hl⟩
    · by_cases h0 : len = 0
      · subst h0; exact .inl ⟨_, _, rfl, by simp⟩
      · have hx0 := hcell 0 (by omega)
        have hsp : a.spot = none := by simpa [Addr.add] using World.cell?_spot hx0
        obtain ⟨b, off, spot⟩ := a
        simp only at hsp
        subst hsp
        have hlen : ((ss.take len).map fun s => s.data.toList).length = len := by simp; omega
        refine .inr ⟨b, off, cap, by rw [hlen], ?_, fun i hil => ?_⟩
        · have := block_of_cell hx0; simpa [Addr.add] using this
        · rw [hlen] at hil
          have hx1 := hcell i (by omega)
          have ex : (⟨b, off, none⟩ : Addr).add i = ⟨b, off + i, none⟩ := by unfold Addr.add; split <;> simp_all
          rw [ex] at hx1
          rw [hx1]
          have e1 : ((ss.take len).map fun s => s.data.toList).getD i [] = ss[i].data.toList := by
            rw [List.getD_eq_getElem?_getD, List.getElem?_map, List.getElem?_take_of_lt hil, List.getElem?_eq_getElem (by omega)]; rfl
          rw [e1, B_L, List.getD_eq_getElem?_getD, List.getElem?_eq_getElem (by omega)]; rfl
    · obtain ⟨t, ht, rfl⟩ := List.mem_map.1 hs
      exact hsz t (List.mem_of_mem_take ht)
end
end Go.Proofs.YtjhkgfbkpgnodaaGreatDoor
