/- The reference's Block. -/
import Derived.Test.YtkipncjagiidoaaHF2
set_option linter.unusedVariables false
set_option linter.unusedSimpArgs false
namespace Go.Proofs.Ytkipncjagiidoaa
open Go Go.RowKit

/-- A crossing that blocks, and an error, as the reference tells them. -/
def rbT (x : Option (Int × Int)) (e : Int) : Value := match x with
  | some c => .agg #[.int .i64 c.1, .int .i64 c.2, .bool true, .int .i64 e]
  | none => .agg #[.int .i64 0, .int .i64 0, .bool false, .int .i64 e]
set_option maxRecDepth 100000 in
set_option maxHeartbeats 4000000 in
theorem rBlock_any (wd hg : Int) (o : Value) (g : List Int) (a b : Pl) (up rise : Int) (w : World) (hv : INRow w o g) (hl : g.length ≤ 9223372036854775807) :
    Calls Try.prog 30 #[mpV wd hg o, plV a, .int .i64 up, plV b, .int .i64 rise] w fun e w' => e = .returned (rbT (bkF wd hg g a up b rise) (lnE wd hg g a b [up, rise])) ∧ Below w.heap.size w w' := by
  have HS := Lib.hid (fun w' (h : Below w.heap.size w w') => rsight_any wd hg o g a b up rise w' (hv.keep h) hl)
  have HFI := Lib.hid (fun (hq : vlB wd hg g a b [up, rise] = true) w' (h : Below w.heap.size w w') => rfirst_any wd hg o g a b up rise w' (hv.keep h) (vl_pair hq).1 (vl_pair hq).2.1 (vl_pair hq).2.2.1 (vl_pair hq).2.2.2.1 (vl_pair hq).2.2.2.2)
  obtain ⟨W1, hW1, hb0, hs1, hrd⟩ := four_readsB w wd hg o a b
  have HW1 := Lib.hid hW1; have HB0 := Lib.hid hb0; have HRD := Lib.hid hrd
  clear hW1 hb0 hrd hv
  have ead : w.heap.size + 1 + 1 = w.heap.size + 2 := rfl
  have ead2 : w.heap.size + 2 + 1 = w.heap.size + 3 := rfl
  unfold mpV plV at HS HFI
  unfold mpV plV
  cases q1 : vlB wd hg g a b [up, rise]
  · have HN : Hid (lnE wd hg g a b [up, rise] = 1) := Lib.hid (by unfold lnE; rw [q1]; rfl)
    have HC : Hid (bkF wd hg g a up b rise = none) := Lib.hid (by unfold bkF; rw [q1]; rfl)
    rw [HN.out] at HS
    rw [HN.out, HC.out]
    unfold rbT
    simp only
    clear q1 HFI
    go_enter Try.func30, Try.ntmps30
    go_wp2_with fail
    rw [← HW1.out]
    refine (HS.out _ HB0.out).mono ?_
    rintro e w2 ⟨rfl, hb2⟩
    have HB2 := Lib.hid (HB0.out.trans (hb2.mono HB0.out.size))
    obtain ⟨_, _, _, _, _, _, _, p9⟩ := HRD.out w2 hb2
    have x0 := cellH p9 0
    have x1 := cellH p9 1
    have x2 := cellH p9 2
    have x3 := cellH p9 3
    have xf := freeH p9
    simp at x0 x1 x2 x3
    have HR := Lib.hid (heap_same (heap_same (heap_same (heap_same p9 0 (.int .i64 0)) 1 (.int .i64 0)) 2 (.bool false)) 3 (.int .i64 1))
    have HB9 := Lib.hid ((((HB2.out.setCell (p := ⟨w.heap.size + 3, 0, none⟩) (by simp) (.int .i64 0)).setCell (p := ⟨w.heap.size + 3, 1, none⟩) (by simp) (.int .i64 0)).setCell (p := ⟨w.heap.size + 3, 2, none⟩) (by simp) (.bool false)).setCell (p := ⟨w.heap.size + 3, 3, none⟩) (by simp) (.int .i64 1))
    clear hb2 p9
    go_wp2_with fail
    exact bodyPost_ret (results_cell_row Try.results30 _ _ (w.heap.size + 3) 61 #[.int .i64 0, .int .i64 0, .bool false, .int .i64 1] (0, 0) _ rfl HR.out Try.underlying61 rfl info_bk) rfl ⟨rfl, HB9.out⟩
  have HN : Hid (lnE wd hg g a b [up, rise] = 0) := Lib.hid (by unfold lnE; rw [q1]; rfl)
  have HC : Hid (bkF wd hg g a up b rise = (blk g wd a b (hAt g wd a + up) (hAt g wd b + rise)).head?) := Lib.hid (by unfold bkF; rw [if_pos q1])
  have HFI := Lib.hid (HFI.out q1)
  rw [HN.out] at HS
  rw [HN.out, HC.out]
  clear q1
  cases hbl : (blk g wd a b (hAt g wd a + up) (hAt g wd b + rise)).head? with
  | none =>
    rw [hbl] at HFI
    simp only at HFI
    unfold rbT
    simp only
    clear hbl
    go_enter Try.func30, Try.ntmps30
    go_wp2_with fail
    rw [← HW1.out]
    refine (HS.out _ HB0.out).mono ?_
    rintro e w2 ⟨rfl, hb2⟩
    have HD2 := Lib.hid hb2
    have HB2 := Lib.hid (HB0.out.trans (hb2.mono HB0.out.size))
    clear hb2
    obtain ⟨p0, p1, p2, p3, p4, p5, p6, _⟩ := HRD.out w2 HD2.out
    go_wp2_with fail
    refine (HFI.out _ HB2.out).mono ?_
    rintro e w3 ⟨rfl, hb3⟩
    have HD3 := Lib.hid (HD2.out.trans (hb3.mono HD2.out.size))
    have HB3 := Lib.hid (HB2.out.trans (hb3.mono HB2.out.size))
    clear hb3 p0 p1 p2 p3 p4 p5 p6
    have HZB := Lib.hid (HB3.out.alloc HB3.out.size (.cells #[.int .i64 0, .int .i64 0] 50))
    have HZD := Lib.hid (HD3.out.alloc HD3.out.size (.cells #[.int .i64 0, .int .i64 0] 50))
    obtain ⟨_, _, _, _, _, _, _, p9⟩ := HRD.out w3 HD3.out
    have hl3 : w.heap.size + 3 < w3.heap.size := (Array.getElem?_eq_some_iff.1 p9).1
    have hn3 : w.heap.size + 3 ≠ w3.heap.size := Nat.ne_of_lt hl3
    have p10 := (gNe w3 (.cells #[.int .i64 0, .int .i64 0] 50) (w.heap.size + 3) hn3).trans p9
    have x0 := cellH p10 0
    have x1 := cellH p10 1
    have x2 := cellH p10 2
    have x3 := cellH p10 3
    have xf := freeH p10
    simp only [List.getElem?_toArray, List.getElem?_cons_zero, List.getElem?_cons_succ] at x0 x1 x2 x3
    have HR := Lib.hid (heap_same (heap_same (heap_same (heap_same p10 0 (.int .i64 0)) 1 (.int .i64 0)) 2 (.bool false)) 3 (.int .i64 0))
    have HB9 := Lib.hid ((((HZB.out.setCell (p := ⟨w.heap.size + 3, 0, none⟩) (by simp) (.int .i64 0)).setCell (p := ⟨w.heap.size + 3, 1, none⟩) (by simp) (.int .i64 0)).setCell (p := ⟨w.heap.size + 3, 2, none⟩) (by simp) (.bool false)).setCell (p := ⟨w.heap.size + 3, 3, none⟩) (by simp) (.int .i64 0))
    clear p9 p10 hn3 hl3
    go_wp2_with fail
    exact bodyPost_ret (results_cell_row Try.results30 _ _ (w.heap.size + 3) 61 #[.int .i64 0, .int .i64 0, .bool false, .int .i64 0] (0, 0) _ rfl HR.out Try.underlying61 rfl info_bk) rfl ⟨rfl, HB9.out⟩
  | some c =>
    rw [hbl] at HFI
    simp only at HFI
    unfold rbT
    simp only
    clear hbl
    go_enter Try.func30, Try.ntmps30
    go_wp2_with fail
    rw [← HW1.out]
    refine (HS.out _ HB0.out).mono ?_
    rintro e w2 ⟨rfl, hb2⟩
    have HD2 := Lib.hid hb2
    have HB2 := Lib.hid (HB0.out.trans (hb2.mono HB0.out.size))
    clear hb2
    obtain ⟨p0, p1, p2, p3, p4, p5, p6, _⟩ := HRD.out w2 HD2.out
    go_wp2_with fail
    refine (HFI.out _ HB2.out).mono ?_
    rintro e w3 ⟨rfl, hb3⟩
    have HD3 := Lib.hid (HD2.out.trans (hb3.mono HD2.out.size))
    have HB3 := Lib.hid (HB2.out.trans (hb3.mono HB2.out.size))
    clear hb3 p0 p1 p2 p3 p4 p5 p6
    have HZB := Lib.hid (HB3.out.alloc HB3.out.size (.cells #[.int .i64 c.1, .int .i64 c.2] 50))
    have HZD := Lib.hid (HD3.out.alloc HD3.out.size (.cells #[.int .i64 c.1, .int .i64 c.2] 50))
    obtain ⟨_, _, _, _, _, _, _, p9⟩ := HRD.out w3 HD3.out
    have hl3 : w.heap.size + 3 < w3.heap.size := (Array.getElem?_eq_some_iff.1 p9).1
    have hn3 : w.heap.size + 3 ≠ w3.heap.size := Nat.ne_of_lt hl3
    have p10 := (gNe w3 (.cells #[.int .i64 c.1, .int .i64 c.2] 50) (w.heap.size + 3) hn3).trans p9
    have x0 := cellH p10 0
    have x1 := cellH p10 1
    have x2 := cellH p10 2
    have x3 := cellH p10 3
    have xf := freeH p10
    simp only [List.getElem?_toArray, List.getElem?_cons_zero, List.getElem?_cons_succ] at x0 x1 x2 x3
    have HR := Lib.hid (heap_same (heap_same (heap_same (heap_same p10 0 (.int .i64 c.1)) 1 (.int .i64 c.2)) 2 (.bool true)) 3 (.int .i64 0))
    have HB9 := Lib.hid ((((HZB.out.setCell (p := ⟨w.heap.size + 3, 0, none⟩) (by simp) (.int .i64 c.1)).setCell (p := ⟨w.heap.size + 3, 1, none⟩) (by simp) (.int .i64 c.2)).setCell (p := ⟨w.heap.size + 3, 2, none⟩) (by simp) (.bool true)).setCell (p := ⟨w.heap.size + 3, 3, none⟩) (by simp) (.int .i64 0))
    clear p9 p10 hn3 hl3
    go_wp2_with fail
    exact bodyPost_ret (results_cell_row Try.results30 _ _ (w.heap.size + 3) 61 #[.int .i64 c.1, .int .i64 c.2, .bool true, .int .i64 0] (0, 0) _ rfl HR.out Try.underlying61 rfl info_bk) rfl ⟨rfl, HB9.out⟩
end Go.Proofs.Ytkipncjagiidoaa
