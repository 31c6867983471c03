/- The example of package firetowerlaw04. -/
import Derived.Test.YtnacgogcbbpjmaaHB0
import Derived.Test.YtnacgogcbbpjmaaHB3
import Derived.Test.YtnacgogcbbpjmaaHB7
import Derived.Test.YtnacgogcbbpjmaaHC1
set_option linter.unusedVariables false
set_option linter.unusedSimpArgs false
namespace Go.Proofs.Ytnacgogcbbpjmaa
open Go Go.RowKit

def exG : List Int := [0, 0, 10, 0, 0, 0, 0, 20, 0, 0, 0, 0, 30, 0, 0]
theorem info_mp : (Try.prog.info? 24).map (·.size) = some 3 := by kernel_rfl
theorem ints_row (W : World) (b : Nat) (l : List Int) (hg : W.heap[b]? = some (.cells (l.map (Value.int .i64 ·)).toArray 3 (0, 0))) : INRow W (.slice (some ⟨b, 0, none⟩) l.length l.length) l := by
  refine .inr ⟨b, 0, l.length, rfl, (Array.getElem?_eq_some_iff.1 hg).1, fun i hi => ?_⟩
  rw [Nat.zero_add, cellH hg]
  simp [List.getD_eq_getElem?_getD, hi]
set_option maxRecDepth 100000 in
set_option maxHeartbeats 2000000 in
theorem Example_any (w : World) :
    Calls Try.prog 16 #[] w fun e w' => ∃ v, e = .returned (mpV 5 3 v) ∧ INRow w' v exG ∧ Below w.heap.size w w' := by
  have HB := Lib.hid (((Below.refl _ w).alloc (Nat.le_refl w.heap.size) (.cells #[.int .i64 5, .int .i64 3, .slice (some ⟨w.heap.size + 1, 0, none⟩) 15 15] 24)).alloc (by simp) (.cells (exG.map (Value.int .i64 ·)).toArray 3))
  have HG0 := Lib.hid ((gNe (w.alloc (.cells #[.int .i64 5, .int .i64 3, .slice (some ⟨w.heap.size + 1, 0, none⟩) 15 15] 24)) (.cells (exG.map (Value.int .i64 ·)).toArray 3) w.heap.size (by simp)).trans (heap_alloc_new _ _))
  have HG1 : Hid (((w.alloc (.cells #[.int .i64 5, .int .i64 3, .slice (some ⟨w.heap.size + 1, 0, none⟩) 15 15] 24)).alloc (.cells (exG.map (Value.int .i64 ·)).toArray 3)).heap[w.heap.size + 1]? = some (.cells (exG.map (Value.int .i64 ·)).toArray 3 (0, 0))) := Lib.hid (gAt _ _ _ (by simp))
  go_enter Try.func16, Try.ntmps16
  go_wp2_with fail
  refine bodyPost_ret (results_cell_row Try.results16 _ _ w.heap.size 24 #[.int .i64 5, .int .i64 3, .slice (some ⟨w.heap.size + 1, 0, none⟩) 15 15] (0, 0) _ rfl HG0.out Try.underlying24 rfl info_mp) rfl ?_
  exact ⟨_, rfl, ints_row _ _ exG HG1.out, HB.out⟩
theorem ex_v0 : vlB 5 3 exG (0, 0) (4, 2) [] = true := by decide
theorem ex_v1 : vlB 5 3 exG (0, 0) (4, 2) [20, 20] = true := by decide
theorem ex_v2 : vlB 5 3 exG (0, 0) (4, 2) [20, 19] = true := by decide
theorem ex_v3 : vlB 5 3 exG (0, 1) (4, 1) [30] = true := by decide
theorem ex_v4 : vlB 5 3 exG (0, 2) (4, 2) [10] = true := by decide
theorem ex_mts : (mts exG 5 (0, 0) (4, 2)).length = 4 := by decide
theorem ex_pfs : pfs (mts exG 5 (0, 0) (4, 2)) = pfs (mts exG 5 (0, 0) (4, 2)) := rfl
theorem ex_free1 : clB 5 3 exG (0, 0) 20 (4, 2) 20 = true := by decide
theorem ex_block : bkF 5 3 exG (0, 0) 20 (4, 2) 19 = some (0, 2) := by decide
theorem ex_need : ndI exG 5 (0, 1) 30 (4, 1) = 10 := by decide
theorem ex_tall : ndI exG 5 (4, 2) 10 (0, 2) = 50 := by decide
def exT : List Tw := [⟨2, 0, 0, 10⟩, ⟨1, 4, 0, 10⟩]
theorem ex_check : ckE 5 3 exG exT [] = 0 := by decide
theorem ex_ord {L : List Tw} (h : Ord L exT) : L = [⟨1, 4, 0, 10⟩, ⟨2, 0, 0, 10⟩] := by
  obtain ⟨hp, hw⟩ := h
  have hl : L.length = 2 := hp.length_eq
  match L, hl with
  | [a, b], _ =>
    have ha : a ∈ exT := hp.mem_iff.1 (by simp)
    have hb : b ∈ exT := hp.mem_iff.1 (by simp)
    have hlt : a.id < b.id := by simpa using hw
    simp [exT] at ha hb
    rcases ha with rfl | rfl <;> rcases hb with rfl | rfl <;> simp_all
theorem ex_links : lkP exG 5 [⟨1, 4, 0, 10⟩, ⟨2, 0, 0, 10⟩] = [(1, 2)] := by decide
end Go.Proofs.Ytnacgogcbbpjmaa

/-! head of package firetowerlaw04: the chapter's example answers as the chapter says. -/
set_option linter.unusedVariables false
set_option linter.unusedSimpArgs false
namespace Go.Proofs.Ytnacgogcbbpjmaa
open Go Go.RowKit

theorem ex_cross : mts exG 5 (0, 0) (4, 2) = [⟨0, 1, 4, 0⟩, ⟨0, 2, 4, 80⟩, ⟨1, 1, 2, 40⟩, ⟨0, 3, 4, 0⟩] := by rfl
theorem ex_low : lowP 2 4 = (1, 2) ∧ lowP 80 4 = (20, 1) := by decide
theorem ex_Line (o : Value) (w : World) (hv : INRow w o exG) : Calls Try.prog 17 #[.agg #[.int .i64 5, .int .i64 3, o], .agg #[.int .i64 0, .int .i64 0], .agg #[.int .i64 4, .int .i64 2]] w fun e w' => ∃ g cap, e = .returned (.tuple #[.slice (some ⟨g, 0, none⟩) 4 cap, .int .i64 0]) ∧ Below w.heap.size w w' ∧ g < w'.heap.size ∧
    w'.cell? ⟨g, 6, none⟩ = some (.int .i64 0) ∧ w'.cell? ⟨g, 7, none⟩ = some (.int .i64 2) ∧ w'.cell? ⟨g, 8, none⟩ = some (.int .i64 1) ∧ w'.cell? ⟨g, 9, none⟩ = some (.int .i64 2) ∧ w'.cell? ⟨g, 10, none⟩ = some (.int .i64 20) ∧ w'.cell? ⟨g, 11, none⟩ = some (.int .i64 1) := by
  refine (Line_any 5 3 o exG (0, 0) (4, 2) w hv (by decide)).mono ?_
  rintro e w' ⟨v, rfl, hb, _, h⟩
  have h1 := h ex_v0
  rw [ex_cross] at h1
  rw [show lnE 5 3 exG (0, 0) (4, 2) [] = 0 by decide]
  rcases h1.2 with ⟨_, hz⟩ | ⟨g, cap, cur, rfl, hg, hbk, _⟩
  · cases hz
  · refine ⟨g, cap, rfl, hb, (Array.getElem?_eq_some_iff.1 hbk).1, ?_, ?_, ?_, ?_, ?_, ?_⟩
    · exact World.ownsRow.cellAt h1 6 (by decide)
    · exact World.ownsRow.cellAt h1 7 (by decide)
    · refine (World.ownsRow.cellAt h1 8 (by decide)).trans ?_
      show some (Value.int .i64 (lowP 2 4).1) = _
      rw [ex_low.1]
    · refine (World.ownsRow.cellAt h1 9 (by decide)).trans ?_
      show some (Value.int .i64 (lowP 2 4).2) = _
      rw [ex_low.1]
    · refine (World.ownsRow.cellAt h1 10 (by decide)).trans ?_
      show some (Value.int .i64 (lowP 80 4).1) = _
      rw [ex_low.2]
    · refine (World.ownsRow.cellAt h1 11 (by decide)).trans ?_
      show some (Value.int .i64 (lowP 80 4).2) = _
      rw [ex_low.2]
theorem ex_Clear (o : Value) (w : World) (hv : INRow w o exG) : Calls Try.prog 18 #[.agg #[.int .i64 5, .int .i64 3, o], .agg #[.int .i64 0, .int .i64 0], .int .i64 20, .agg #[.int .i64 4, .int .i64 2], .int .i64 20] w fun e w' => e = .returned (.tuple #[.bool true, .int .i64 0]) ∧ Below w.heap.size w w' := by
  have h := Clear_any 5 3 o exG (0, 0) (4, 2) 20 20 w hv (by decide)
  rw [ex_free1, show lnE 5 3 exG (0, 0) (4, 2) [20, 20] = 0 by decide] at h
  exact h
theorem ex_Block (o : Value) (w : World) (hv : INRow w o exG) : Calls Try.prog 19 #[.agg #[.int .i64 5, .int .i64 3, o], .agg #[.int .i64 0, .int .i64 0], .int .i64 20, .agg #[.int .i64 4, .int .i64 2], .int .i64 19] w fun e w' => e = .returned (.tuple #[.agg #[.int .i64 0, .int .i64 2], .bool true, .int .i64 0]) ∧ Below w.heap.size w w' := by
  have h := Block_any 5 3 o exG (0, 0) (4, 2) 20 19 w hv (by decide)
  rw [ex_block, show lnE 5 3 exG (0, 0) (4, 2) [20, 19] = 0 by decide] at h
  exact h
theorem ex_Needed (o : Value) (w : World) (hv : INRow w o exG) : Calls Try.prog 20 #[.agg #[.int .i64 5, .int .i64 3, o], .agg #[.int .i64 0, .int .i64 1], .int .i64 30, .agg #[.int .i64 4, .int .i64 1]] w fun e w' => e = .returned (.tuple #[.int .i64 10, .int .i64 0]) ∧ Below w.heap.size w w' := by
  have h := Needed_any 5 3 o exG (0, 1) (4, 1) 30 w hv (by decide)
  rw [if_pos ex_v3, ex_need, show lnE 5 3 exG (0, 1) (4, 1) [30] = 0 by decide] at h
  exact h
theorem ex_Tall (o : Value) (w : World) (hv : INRow w o exG) : Calls Try.prog 21 #[.agg #[.int .i64 5, .int .i64 3, o], .agg #[.int .i64 0, .int .i64 2], .agg #[.int .i64 4, .int .i64 2], .int .i64 10] w fun e w' => e = .returned (.tuple #[.int .i64 50, .int .i64 0]) ∧ Below w.heap.size w w' := by
  have h := Tall_any 5 3 o exG (0, 2) (4, 2) 10 w hv (by decide)
  rw [if_pos ex_v4, ex_tall, show lnE 5 3 exG (0, 2) (4, 2) [10] = 0 by decide] at h
  exact h
theorem ex_Links (o tv : Value) (w : World) (hv : INRow w o exG) (ht : TwRow w tv exT) : Calls Try.prog 22 #[.agg #[.int .i64 5, .int .i64 3, o, tv, .slice none 0 0]] w fun e w' => ∃ g cap, e = .returned (.tuple #[.slice (some ⟨g, 0, none⟩) 1 cap, .int .i64 0]) ∧ Below w.heap.size w w' ∧ g < w'.heap.size ∧ w'.cell? ⟨g, 0, none⟩ = some (.int .i64 1) ∧ w'.cell? ⟨g, 1, none⟩ = some (.int .i64 2) := by
  refine (Links_any 5 3 o tv (.slice none 0 0) exG exT [] w hv (by decide) ht (by decide) (.inl ⟨_, _, rfl, rfl⟩) (by decide)).mono ?_
  rintro e w' ⟨v, rfl, hb, _, h⟩
  obtain ⟨L, hO, h1⟩ := h ex_check
  obtain rfl := ex_ord hO
  rw [ex_links] at h1
  rw [ex_check]
  rcases h1.2 with ⟨_, hz⟩ | ⟨g, cap, cur, rfl, hg, hbk, _⟩
  · cases hz
  · exact ⟨g, cap, rfl, hb, (Array.getElem?_eq_some_iff.1 hbk).1, World.ownsRow.cellAt h1 0 (by decide), World.ownsRow.cellAt h1 1 (by decide)⟩
theorem tws_row (W : World) (b : Nat) (hg : W.heap[b]? = some (.cells #[.int .i64 2, .int .i64 0, .int .i64 0, .int .i64 10, .int .i64 1, .int .i64 4, .int .i64 0, .int .i64 10] 48 (0, 0))) : TwRow W (.slice (some ⟨b, 0, none⟩) 2 2) exT := by
  refine .inr ⟨b, 0, 2, rfl, by decide, (Array.getElem?_eq_some_iff.1 hg).1, fun i hi => ?_⟩
  have hi2 : i < 2 := hi
  simp only [cellH hg]
  rcases (by omega : i = 0 ∨ i = 1) with rfl | rfl <;> exact ⟨rfl, rfl, rfl, rfl⟩

theorem two_same (w : World) : (binOp .eql 72 (.agg #[.int .i64 1, .int .i64 2]) (.agg #[.int .i64 1, .int .i64 2])).run Try.prog w = .ok (.bool true) w := by kernel_rfl
set_option maxRecDepth 100000 in
set_option maxHeartbeats 8000000 in
theorem head_any (w : World) : Calls Try.prog 5 #[] w fun e w' => e = .returned (.bool true) ∧ Below w.heap.size w w' := by
  have HE := Lib.hid (Example_any w)
  go_enter Try.func5, Try.ntmps5
  go_wp2_with fail
  refine HE.out.mono ?_
  rintro e w1 ⟨v, rfl, hv, hb⟩
  obtain ⟨va, vc, rfl, _⟩ := hv.form
  rw [show exG.length = 15 from rfl] at hv ⊢
  have HB1 := Lib.hid hb
  have HV1 := Lib.hid hv
  unfold mpV
  have HA := Lib.hid (fun W' => three_cells w1 #[.int .i64 5, .int .i64 3, .slice va 15 vc] #[.int .i64 0, .int .i64 0] #[.int .i64 4, .int .i64 2] 24 32 32 (W := W'))
  have HBA := Lib.hid ((((Below.refl _ w1).alloc (Nat.le_refl w1.heap.size) (.cells #[.int .i64 5, .int .i64 3, .slice va 15 vc] 24)).alloc (by simp) (.cells #[.int .i64 0, .int .i64 0] 32)).alloc (by simp; omega) (.cells #[.int .i64 4, .int .i64 2] 32))
  obtain ⟨W3, hW3⟩ : ∃ W3, ((w1.alloc (.cells #[.int .i64 5, .int .i64 3, .slice va 15 vc] 24)).alloc (.cells #[.int .i64 0, .int .i64 0] 32)).alloc (.cells #[.int .i64 4, .int .i64 2] 32) = W3 := ⟨_, rfl⟩
  rw [hW3] at HA HBA
  have HW3 := Lib.hid hW3
  have HRD : Hid (∀ W', Below W3.heap.size W3 W' → W'.cell? ⟨w1.heap.size, 0, none⟩ = some (.int .i64 5) ∧ W'.cell? ⟨w1.heap.size, 1, none⟩ = some (.int .i64 3) ∧ W'.cell? ⟨w1.heap.size, 2, none⟩ = some (.slice va 15 vc) ∧ W'.cell? ⟨w1.heap.size + 1, 0, none⟩ = some (.int .i64 0) ∧ W'.cell? ⟨w1.heap.size + 1, 1, none⟩ = some (.int .i64 0) ∧ W'.cell? ⟨w1.heap.size + 2, 0, none⟩ = some (.int .i64 4) ∧ W'.cell? ⟨w1.heap.size + 2, 1, none⟩ = some (.int .i64 2) ∧ w1.heap.size + 2 < W'.heap.size) := Lib.hid (fun W' h => by
    obtain ⟨m0, m1, m2, hs, _⟩ := HA.out W' h
    exact ⟨cellH m0 0, cellH m0 1, cellH m0 2, cellH m1 0, cellH m1 1, cellH m2 0, cellH m2 1, hs⟩)
  have ead : w1.heap.size + 1 + 1 = w1.heap.size + 2 := rfl
  clear hb hv HE hW3
  go_wp2_with fail
  rw [HW3.out]
  have HD3 := Lib.hid (Below.refl W3.heap.size W3)
  obtain ⟨q0, q1, q2, r0, r1, s0, s1, _⟩ := HRD.out W3 HD3.out
  go_wp2_with fail
  refine (ex_Line (.slice va 15 vc) W3 (HV1.out.keep HBA.out)).mono ?_
  rintro e w4 ⟨gl, cl, rfl, hb, l0, l1, l2, l3, l4, l5, l6⟩
  have HD4 := Lib.hid hb
  have HL : Hid (∀ W', Below w4.heap.size w4 W' → W'.cell? ⟨gl, 6, none⟩ = some (.int .i64 0) ∧ W'.cell? ⟨gl, 7, none⟩ = some (.int .i64 2) ∧ W'.cell? ⟨gl, 8, none⟩ = some (.int .i64 1) ∧ W'.cell? ⟨gl, 9, none⟩ = some (.int .i64 2) ∧ W'.cell? ⟨gl, 10, none⟩ = some (.int .i64 20) ∧ W'.cell? ⟨gl, 11, none⟩ = some (.int .i64 1)) := Lib.hid (fun W' h =>
    ⟨(h.cell (p := ⟨gl, _, none⟩) l0).trans l1, (h.cell (p := ⟨gl, _, none⟩) l0).trans l2, (h.cell (p := ⟨gl, _, none⟩) l0).trans l3, (h.cell (p := ⟨gl, _, none⟩) l0).trans l4, (h.cell (p := ⟨gl, _, none⟩) l0).trans l5, (h.cell (p := ⟨gl, _, none⟩) l0).trans l6⟩)
  clear hb l0 l1 l2 l3 l4 l5 l6 q0 q1 q2 r0 r1 s0 s1
  obtain ⟨q0, q1, q2, r0, r1, s0, s1, _⟩ := HRD.out w4 HD4.out
  go_wp2_with fail
  refine (ex_Clear (.slice va 15 vc) w4 (HV1.out.keep (HBA.out.trans (HD4.out.mono HBA.out.size)))).mono ?_
  rintro e w5 ⟨rfl, hb⟩
  have HD5 := Lib.hid (HD4.out.trans (hb.mono HD4.out.size))
  have HN5 := Lib.hid hb
  clear hb q0 q1 q2 r0 r1 s0 s1
  obtain ⟨q0, q1, q2, r0, r1, s0, s1, _⟩ := HRD.out w5 HD5.out
  go_wp2_with fail
  refine (ex_Block (.slice va 15 vc) w5 (HV1.out.keep (HBA.out.trans (HD5.out.mono HBA.out.size)))).mono ?_
  rintro e w6 ⟨rfl, hb⟩
  have HD6 := Lib.hid (HD5.out.trans (hb.mono HD5.out.size))
  have HN6 := Lib.hid (HN5.out.trans (hb.mono HN5.out.size))
  clear hb q0 q1 q2 r0 r1 s0 s1
  obtain ⟨q0, q1, q2, r0, r1, s0, s1, hsz⟩ := HRD.out w6 HD6.out
  have hn0 : w1.heap.size ≠ w6.heap.size := by omega
  have hn1 : w1.heap.size + 1 ≠ w6.heap.size := by omega
  have hn2 : w1.heap.size + 2 ≠ w6.heap.size := by omega
  have hl0 : w1.heap.size < w6.heap.size := by omega
  have hl1 : w1.heap.size + 1 < w6.heap.size := by omega
  have hY := (Below.refl _ w6).alloc (Nat.le_refl _) (.cells #[.int .i64 0, .int .i64 2] 60)
  have HYR : Hid ((w6.alloc (.cells #[.int .i64 0, .int .i64 2] 60)).heap[w6.heap.size]? = some (.cells #[.int .i64 0, .int .i64 2] 60 (0, 0))) := Lib.hid (heap_alloc_new _ _)
  obtain ⟨Y, hYe⟩ : ∃ Y, w6.alloc (.cells #[.int .i64 0, .int .i64 2] 60) = Y := ⟨_, rfl⟩
  rw [hYe] at hY HYR
  have HY := Lib.hid hYe
  have HDY := Lib.hid (HD6.out.trans (hY.mono HD6.out.size))
  have HNY := Lib.hid (HN6.out.trans (hY.mono HN6.out.size))
  clear hY hYe
  go_wp2_with fail
  rw [HY.out]
  clear q0 q1 q2 r0 r1 s0 s1 hn0 hn1 hn2 hl0 hl1 HY
  obtain ⟨c8, hc8⟩ : ∃ n, w6.heap.size = n := ⟨_, rfl⟩
  rw [hc8] at HYR ⊢
  clear hsz hc8
  refine (ex_Needed (.slice va 15 vc) Y (HV1.out.keep (HBA.out.trans (HDY.out.mono HBA.out.size)))).mono ?_
  rintro e w7 ⟨rfl, hb⟩
  have HD7 := Lib.hid (HDY.out.trans (hb.mono HDY.out.size))
  have HN7 := Lib.hid (HNY.out.trans (hb.mono HNY.out.size))
  have HR7 := Lib.hid ((hb.block _ (Array.getElem?_eq_some_iff.1 HYR.out).1).trans HYR.out)
  clear hb
  obtain ⟨q0, q1, q2, r0, r1, s0, s1, _⟩ := HRD.out w7 HD7.out
  go_wp2_with fail
  refine (ex_Tall (.slice va 15 vc) w7 (HV1.out.keep (HBA.out.trans (HD7.out.mono HBA.out.size)))).mono ?_
  rintro e w8 ⟨rfl, hb⟩
  have HD8 := Lib.hid (HD7.out.trans (hb.mono HD7.out.size))
  have HN8 := Lib.hid (HN7.out.trans (hb.mono HN7.out.size))
  have HR8 := Lib.hid ((hb.block _ (Array.getElem?_eq_some_iff.1 HR7.out).1).trans HR7.out)
  clear hb q0 q1 q2 r0 r1 s0 s1
  obtain ⟨q0, q1, q2, r0, r1, s0, s1, _⟩ := HRD.out w8 HD8.out
  have TW0 := heap_alloc_new w8 (.cells #[.int .i64 2, .int .i64 0, .int .i64 0, .int .i64 10, .int .i64 1, .int .i64 4, .int .i64 0, .int .i64 10] 48)
  have hZ := ((Below.refl _ w8).alloc (Nat.le_refl _) (.cells #[.int .i64 2, .int .i64 0, .int .i64 0, .int .i64 10, .int .i64 1, .int .i64 4, .int .i64 0, .int .i64 10] 48)).alloc (by simp) (.cells #[.int .i64 5, .int .i64 3, .slice va 15 vc, .slice (some ⟨w8.heap.size, 0, none⟩) 2 2, .slice none 0 0] 28)
  have TW1 := (gNe (w8.alloc (.cells #[.int .i64 2, .int .i64 0, .int .i64 0, .int .i64 10, .int .i64 1, .int .i64 4, .int .i64 0, .int .i64 10] 48)) (.cells #[.int .i64 5, .int .i64 3, .slice va 15 vc, .slice (some ⟨w8.heap.size, 0, none⟩) 2 2, .slice none 0 0] 28) w8.heap.size (by simp)).trans TW0
  clear TW0
  obtain ⟨Z, hZe⟩ : ∃ Z, (w8.alloc (.cells #[.int .i64 2, .int .i64 0, .int .i64 0, .int .i64 10, .int .i64 1, .int .i64 4, .int .i64 0, .int .i64 10] 48)).alloc (.cells #[.int .i64 5, .int .i64 3, .slice va 15 vc, .slice (some ⟨w8.heap.size, 0, none⟩) 2 2, .slice none 0 0] 28) = Z := ⟨_, rfl⟩
  rw [hZe] at hZ TW1
  have HTW := Lib.hid (tws_row Z _ TW1)
  have HZ := Lib.hid hZe
  have HDZ := Lib.hid (HD8.out.trans (hZ.mono HD8.out.size))
  have HNZ := Lib.hid (HN8.out.trans (hZ.mono HN8.out.size))
  have HRZ := Lib.hid ((hZ.block _ (Array.getElem?_eq_some_iff.1 HR8.out).1).trans HR8.out)
  clear hZ hZe TW1
  go_wp2_with fail
  rw [HZ.out]
  clear q0 q1 q2 r0 r1 s0 s1 HZ
  refine (ex_Links (.slice va 15 vc) (.slice (some ⟨w8.heap.size, 0, none⟩) 2 2) Z (HV1.out.keep (HBA.out.trans (HDZ.out.mono HBA.out.size))) HTW.out).mono ?_
  rintro e w9 ⟨gk, ck, rfl, hb, k0, k1, k2⟩
  have HD9 := Lib.hid (HDZ.out.trans (hb.mono HDZ.out.size))
  have HN9 := Lib.hid (HNZ.out.trans (hb.mono HNZ.out.size))
  have hr9 := (hb.block _ (Array.getElem?_eq_some_iff.1 HRZ.out).1).trans HRZ.out
  have x0 := cellH hr9 0
  have x1 := cellH hr9 1
  simp at x0 x1
  have HF := Lib.hid (HB1.out.trans ((HBA.out.trans (HD9.out.mono HBA.out.size)).mono HB1.out.size))
  obtain ⟨l1, l2, l3, l4, l5, l6⟩ := HL.out w9 HN9.out
  clear hb k0 hr9
  have hq2 := two_same
  go_wp2_with fail
  go_ret
  exact ⟨rfl, HF.out⟩
end Go.Proofs.Ytnacgogcbbpjmaa
