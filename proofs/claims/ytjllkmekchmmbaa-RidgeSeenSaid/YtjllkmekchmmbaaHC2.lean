/- The example of package firetowerlaw04. -/
import Derived.Test.YtjllkmekchmmbaaHB1
import Derived.Test.YtjllkmekchmmbaaHB5
import Derived.Test.YtjllkmekchmmbaaHB7
import Derived.Test.YtjllkmekchmmbaaHC1
set_option linter.unusedVariables false
set_option linter.unusedSimpArgs false
namespace Go.Proofs.Ytjllkmekchmmbaa
open Go Go.RowKit

def exG : List Int := [0, 0, 10, 0, 0, 0, 0, 20, 0, 0, 0, 0, 30, 0, 0]
theorem info_mp : (Try.prog.info? 24).map (·.size) = some 3 := by kernel_rfl
theorem ints_row (W : World) (b : Nat) (l : List Int) (hg : W.heap[b]? = some (.cells (l.map (Value.int .i64 ·)).toArray 3 (0, 0))) : INRow W (.slice (some ⟨b, 0, none⟩) l.length l.length) l := by
  refine .inr ⟨b, 0, l.length, rfl, (Array.getElem?_eq_some_iff.1 hg).1, fun i hi => ?_⟩
  rw [Nat.zero_add, cellH hg]
  simp [List.getD_eq_getElem?_getD, hi]
set_option maxRecDepth 100000 in
set_option maxHeartbeats 2000000 in
theorem Example_any (w : World) :
    Calls Try.prog 42 #[] w fun e w' => ∃ v, e = .returned (mpV 5 3 v) ∧ INRow w' v exG ∧ Below w.heap.size w w' := by
  have HB := Lib.hid (((Below.refl _ w).alloc (Nat.le_refl w.heap.size) (.cells #[.int .i64 5, .int .i64 3, .slice (some ⟨w.heap.size + 1, 0, none⟩) 15 15] 24)).alloc (by simp) (.cells (exG.map (Value.int .i64 ·)).toArray 3))
  have HG0 := Lib.hid ((gNe (w.alloc (.cells #[.int .i64 5, .int .i64 3, .slice (some ⟨w.heap.size + 1, 0, none⟩) 15 15] 24)) (.cells (exG.map (Value.int .i64 ·)).toArray 3) w.heap.size (by simp)).trans (heap_alloc_new _ _))
  have HG1 : Hid (((w.alloc (.cells #[.int .i64 5, .int .i64 3, .slice (some ⟨w.heap.size + 1, 0, none⟩) 15 15] 24)).alloc (.cells (exG.map (Value.int .i64 ·)).toArray 3)).heap[w.heap.size + 1]? = some (.cells (exG.map (Value.int .i64 ·)).toArray 3 (0, 0))) := Lib.hid (gAt _ _ _ (by simp))
  go_enter Try.func42, Try.ntmps42
  go_wp2_with fail
  refine bodyPost_ret (results_cell_row Try.results42 _ _ w.heap.size 24 #[.int .i64 5, .int .i64 3, .slice (some ⟨w.heap.size + 1, 0, none⟩) 15 15] (0, 0) _ rfl HG0.out Try.underlying24 rfl info_mp) rfl ?_
  exact ⟨_, rfl, ints_row _ _ exG HG1.out, HB.out⟩
theorem ex_v0 : vlB 5 3 exG (0, 0) (4, 2) [] = true := by decide
theorem ex_v1 : vlB 5 3 exG (0, 0) (4, 2) [20, 20] = true := by decide
theorem ex_v2 : vlB 5 3 exG (0, 0) (4, 2) [20, 19] = true := by decide
theorem ex_v3 : vlB 5 3 exG (0, 1) (4, 1) [30] = true := by decide
theorem ex_v4 : vlB 5 3 exG (0, 2) (4, 2) [10] = true := by decide
theorem ex_mts : (mts exG 5 (0, 0) (4, 2)).length = 4 := by decide
theorem ex_pfs : pfs (mts exG 5 (0, 0) (4, 2)) = pfs (mts exG 5 (0, 0) (4, 2)) := rfl
theorem ex_free1 : clB 5 3 exG (0, 0) 20 (4, 2) 20 = true := by decide
theorem ex_block : bkF 5 3 exG (0, 0) 20 (4, 2) 19 = some (0, 2) := by decide
theorem ex_need : ndI exG 5 (0, 1) 30 (4, 1) = 10 := by decide
theorem ex_tall : ndI exG 5 (4, 2) 10 (0, 2) = 50 := by decide
def exT : List Tw := [⟨2, 0, 0, 10⟩, ⟨1, 4, 0, 10⟩]
theorem ex_check : ckE 5 3 exG exT [] = 0 := by decide
theorem ex_ord {L : List Tw} (h : Ord L exT) : L = [⟨1, 4, 0, 10⟩, ⟨2, 0, 0, 10⟩] := by
  obtain ⟨hp, hw⟩ := h
  have hl : L.length = 2 := hp.length_eq
  match L, hl with
  | [a, b], _ =>
    have ha : a ∈ exT := hp.mem_iff.1 (by simp)
    have hb : b ∈ exT := hp.mem_iff.1 (by simp)
    have hlt : a.id < b.id := by simpa using hw
    simp [exT] at ha hb
    rcases ha with rfl | rfl <;> rcases hb with rfl | rfl <;> simp_all
theorem ex_links : lkP exG 5 [⟨1, 4, 0, 10⟩, ⟨2, 0, 0, 10⟩] = [(1, 2)] := by decide
end Go.Proofs.Ytjllkmekchmmbaa
