/- Package firetowerlaw05: CircleWedges. -/
import Derived.Test.YtpaihnjgpookjaaCD9
import Derived.Test.YtpaihnjgpookjaaCE1
import Derived.Test.YtpaihnjgpookjaaCD5
import Derived.Laws.StructEq
set_option linter.unusedVariables false
set_option linter.unusedSimpArgs false
namespace Go.Proofs.Ytpaihnjgpookjaa
open Go Go.RowKit

set_option maxRecDepth 100000 in
set_option maxHeartbeats 8000000 in
theorem wedges_card (af at' bf bt a b c d n : Int) (w : World) (hn : -9223372036854775808 ≤ n ∧ n ≤ 9223372036854775807) : Calls Try.prog 3 #[.agg #[.int .i64 af, .int .i64 at'], .agg #[.int .i64 bf, .int .i64 bt], .agg #[.int .i64 a, .int .i64 b], .agg #[.int .i64 c, .int .i64 d], .int .i64 n] w fun e w' => e = .returned (.bool true) ∧ Below w.heap.size w w' := by
  have H1 := Lib.hid (fun w' => Meet_any af at' bf bt w')
  rw [mtV_eq] at H1
  have H2 := Lib.hid (fun w' => pMeet_any af at' bf bt w')
  have H3 := Lib.hid (fun w' => Widen_any af at' n w')
  have H4 := Lib.hid (fun w' => pWiden_any af at' n w')
  have H5 := Lib.hid (fun w' => sanity_any w')
  have H6 := Lib.hid (fun w' => Opening_any af at' w')
  have H7 := Lib.hid (fun w' => pOpening_any af at' w')
  have H8 := Lib.hid (fun w' => Lies_any af at' a b c d w')
  have H9 := Lib.hid (fun w' => pLies_any af at' a b c d w')
  obtain ⟨MF, hMF⟩ : ∃ z, mtFr af at' bf bt = z := ⟨_, rfl⟩
  obtain ⟨MT, hMT⟩ : ∃ z, mtTo af at' bf bt = z := ⟨_, rfl⟩
  obtain ⟨MB, hMB⟩ : ∃ z, mtB af at' bf bt = z := ⟨_, rfl⟩
  obtain ⟨WF, hWF⟩ : ∃ z, wdF af at' n = z := ⟨_, rfl⟩
  obtain ⟨WT, hWT⟩ : ∃ z, wdT af at' n = z := ⟨_, rfl⟩
  obtain ⟨WB, hWB⟩ : ∃ z, wdB af at' n = z := ⟨_, rfl⟩
  obtain ⟨OP, hOP⟩ : ∃ z, opI af at' = z := ⟨_, rfl⟩
  obtain ⟨LS, hLS⟩ : ∃ z, lsB af at' a b c d = z := ⟨_, rfl⟩
  rw [hMF, hMT, hMB] at H1 H2
  rw [hWF, hWT, hWB] at H3 H4
  rw [hOP] at H6 H7
  rw [hLS] at H8 H9
  clear hMF hMT hMB hWF hWT hWB hOP hLS
  obtain ⟨x0, x1, x2, x3, xlt, xb⟩ := cells4 w #[.int .i64 af, .int .i64 at'] #[.int .i64 bf, .int .i64 bt] #[.int .i64 a, .int .i64 b] #[.int .i64 c, .int .i64 d] 23 23 25 25 (Below.refl _ _)
  have HNp : Hid (((((w.alloc (.cells #[.int .i64 af, .int .i64 at'] 23)).alloc (.cells #[.int .i64 bf, .int .i64 bt] 23)).alloc (.cells #[.int .i64 a, .int .i64 b] 25)).alloc (.cells #[.int .i64 c, .int .i64 d] 25)).heap[w.heap.size]? = some (.cells #[.int .i64 af, .int .i64 at'] 23 (0, 0))) := Lib.hid x0
  have HNq : Hid (((((w.alloc (.cells #[.int .i64 af, .int .i64 at'] 23)).alloc (.cells #[.int .i64 bf, .int .i64 bt] 23)).alloc (.cells #[.int .i64 a, .int .i64 b] 25)).alloc (.cells #[.int .i64 c, .int .i64 d] 25)).heap[w.heap.size + 1]? = some (.cells #[.int .i64 bf, .int .i64 bt] 23 (0, 0))) := Lib.hid x1
  have HNf : Hid (((((w.alloc (.cells #[.int .i64 af, .int .i64 at'] 23)).alloc (.cells #[.int .i64 bf, .int .i64 bt] 23)).alloc (.cells #[.int .i64 a, .int .i64 b] 25)).alloc (.cells #[.int .i64 c, .int .i64 d] 25)).heap[w.heap.size + 1 + 1]? = some (.cells #[.int .i64 a, .int .i64 b] 25 (0, 0))) := Lib.hid x2
  have HNt : Hid (((((w.alloc (.cells #[.int .i64 af, .int .i64 at'] 23)).alloc (.cells #[.int .i64 bf, .int .i64 bt] 23)).alloc (.cells #[.int .i64 a, .int .i64 b] 25)).alloc (.cells #[.int .i64 c, .int .i64 d] 25)).heap[w.heap.size + 1 + 1 + 1]? = some (.cells #[.int .i64 c, .int .i64 d] 25 (0, 0))) := Lib.hid x3
  have HB : Hid (Below w.heap.size w ((((w.alloc (.cells #[.int .i64 af, .int .i64 at'] 23)).alloc (.cells #[.int .i64 bf, .int .i64 bt] 23)).alloc (.cells #[.int .i64 a, .int .i64 b] 25)).alloc (.cells #[.int .i64 c, .int .i64 d] 25))) := Lib.hid xb
  obtain ⟨Z, hZ⟩ : ∃ Z, ((((w.alloc (.cells #[.int .i64 af, .int .i64 at'] 23)).alloc (.cells #[.int .i64 bf, .int .i64 bt] 23)).alloc (.cells #[.int .i64 a, .int .i64 b] 25)).alloc (.cells #[.int .i64 c, .int .i64 d] 25)) = Z := ⟨_, rfl⟩
  rw [hZ] at HB HNp HNq HNf HNt
  have HZ := Lib.hid hZ
  clear hZ xlt xb x0 x1 x2 x3
  go_enter Try.func3, Try.ntmps3
  go_wp2_with fail
  rw [HZ.out]
  refine (H1.out _).mono ?_
  rintro e w1 ⟨rfl, hb⟩
  have HB := Lib.hid (HB.out.trans (hb.mono HB.out.size))
  have HNp := Lib.hid ((hb.block _ (Array.getElem?_eq_some_iff.1 HNp.out).1).trans HNp.out)
  have HNq := Lib.hid ((hb.block _ (Array.getElem?_eq_some_iff.1 HNq.out).1).trans HNq.out)
  have HNf := Lib.hid ((hb.block _ (Array.getElem?_eq_some_iff.1 HNf.out).1).trans HNf.out)
  have HNt := Lib.hid ((hb.block _ (Array.getElem?_eq_some_iff.1 HNt.out).1).trans HNt.out)
  clear hb
  have hal : Below w1.heap.size w1 (w1.alloc (.cells #[.int .i64 MF, .int .i64 MT] 23)) := (Below.refl _ w1).alloc (Nat.le_refl _) _
  have HSm : Hid (w.heap.size ≤ w1.heap.size) := Lib.hid HB.out.size
  have HNm : Hid ((w1.alloc (.cells #[.int .i64 MF, .int .i64 MT] 23)).heap[w1.heap.size]? = some (.cells #[.int .i64 MF, .int .i64 MT] 23 (0, 0))) := Lib.hid (heap_alloc_new _ _)
  have HB := Lib.hid (HB.out.trans (hal.mono HB.out.size))
  have HNp := Lib.hid ((hal.block _ (Array.getElem?_eq_some_iff.1 HNp.out).1).trans HNp.out)
  have HNq := Lib.hid ((hal.block _ (Array.getElem?_eq_some_iff.1 HNq.out).1).trans HNq.out)
  have HNf := Lib.hid ((hal.block _ (Array.getElem?_eq_some_iff.1 HNf.out).1).trans HNf.out)
  have HNt := Lib.hid ((hal.block _ (Array.getElem?_eq_some_iff.1 HNt.out).1).trans HNt.out)
  obtain ⟨am, ham⟩ : ∃ qq, w1.alloc (.cells #[.int .i64 MF, .int .i64 MT] 23) = qq := ⟨_, rfl⟩
  obtain ⟨bkm, hbm⟩ : ∃ qq, w1.heap.size = qq := ⟨_, rfl⟩
  rw [ham] at HB HNm HNp HNq HNf HNt
  rw [hbm] at HNm HSm
  clear hal
  have zp0 := cellH HNp.out 0
  have zp1 := cellH HNp.out 1
  have zq0 := cellH HNq.out 0
  have zq1 := cellH HNq.out 1
  simp only [List.getElem?_toArray, List.getElem?_cons_zero, List.getElem?_cons_succ] at zp0 zp1 zq0 zq1
  go_wp2_with fail
  try clear ham hbm
  refine (H2.out _).mono ?_
  rintro e w2 ⟨rfl, hb⟩
  clear zp0 zp1 zq0 zq1
  have HB := Lib.hid (HB.out.trans (hb.mono HB.out.size))
  have HNp := Lib.hid ((hb.block _ (Array.getElem?_eq_some_iff.1 HNp.out).1).trans HNp.out)
  have HNq := Lib.hid ((hb.block _ (Array.getElem?_eq_some_iff.1 HNq.out).1).trans HNq.out)
  have HNf := Lib.hid ((hb.block _ (Array.getElem?_eq_some_iff.1 HNf.out).1).trans HNf.out)
  have HNt := Lib.hid ((hb.block _ (Array.getElem?_eq_some_iff.1 HNt.out).1).trans HNt.out)
  have HNm := Lib.hid ((hb.block _ (Array.getElem?_eq_some_iff.1 HNm.out).1).trans HNm.out)
  clear hb
  have hal : Below w2.heap.size w2 (w2.alloc (.cells #[.int .i64 MF, .int .i64 MT, .bool MB] 29)) := (Below.refl _ w2).alloc (Nat.le_refl _) _
  have HSx : Hid (w.heap.size ≤ w2.heap.size) := Lib.hid HB.out.size
  have HNx : Hid ((w2.alloc (.cells #[.int .i64 MF, .int .i64 MT, .bool MB] 29)).heap[w2.heap.size]? = some (.cells #[.int .i64 MF, .int .i64 MT, .bool MB] 29 (0, 0))) := Lib.hid (heap_alloc_new _ _)
  have HB := Lib.hid (HB.out.trans (hal.mono HB.out.size))
  have HNp := Lib.hid ((hal.block _ (Array.getElem?_eq_some_iff.1 HNp.out).1).trans HNp.out)
  have HNq := Lib.hid ((hal.block _ (Array.getElem?_eq_some_iff.1 HNq.out).1).trans HNq.out)
  have HNf := Lib.hid ((hal.block _ (Array.getElem?_eq_some_iff.1 HNf.out).1).trans HNf.out)
  have HNt := Lib.hid ((hal.block _ (Array.getElem?_eq_some_iff.1 HNt.out).1).trans HNt.out)
  have HNm := Lib.hid ((hal.block _ (Array.getElem?_eq_some_iff.1 HNm.out).1).trans HNm.out)
  obtain ⟨ax, hax⟩ : ∃ qq, w2.alloc (.cells #[.int .i64 MF, .int .i64 MT, .bool MB] 29) = qq := ⟨_, rfl⟩
  obtain ⟨bkx, hbx⟩ : ∃ qq, w2.heap.size = qq := ⟨_, rfl⟩
  rw [hax] at HB HNx HNp HNq HNf HNt HNm
  rw [hbx] at HNx HSx
  clear hal
  have zp0 := cellH HNp.out 0
  have zp1 := cellH HNp.out 1
  simp only [List.getElem?_toArray, List.getElem?_cons_zero, List.getElem?_cons_succ] at zp0 zp1
  go_wp2_with fail
  try clear hax hbx
  refine (H3.out _).mono ?_
  rintro e w3 ⟨rfl, hb⟩
  clear zp0 zp1
  have HB := Lib.hid (HB.out.trans (hb.mono HB.out.size))
  have HNp := Lib.hid ((hb.block _ (Array.getElem?_eq_some_iff.1 HNp.out).1).trans HNp.out)
  have HNq := Lib.hid ((hb.block _ (Array.getElem?_eq_some_iff.1 HNq.out).1).trans HNq.out)
  have HNf := Lib.hid ((hb.block _ (Array.getElem?_eq_some_iff.1 HNf.out).1).trans HNf.out)
  have HNt := Lib.hid ((hb.block _ (Array.getElem?_eq_some_iff.1 HNt.out).1).trans HNt.out)
  have HNm := Lib.hid ((hb.block _ (Array.getElem?_eq_some_iff.1 HNm.out).1).trans HNm.out)
  have HNx := Lib.hid ((hb.block _ (Array.getElem?_eq_some_iff.1 HNx.out).1).trans HNx.out)
  clear hb
  have hal : Below w3.heap.size w3 (w3.alloc (.cells #[.int .i64 WF, .int .i64 WT] 23)) := (Below.refl _ w3).alloc (Nat.le_refl _) _
  have HSv : Hid (w.heap.size ≤ w3.heap.size) := Lib.hid HB.out.size
  have HNv : Hid ((w3.alloc (.cells #[.int .i64 WF, .int .i64 WT] 23)).heap[w3.heap.size]? = some (.cells #[.int .i64 WF, .int .i64 WT] 23 (0, 0))) := Lib.hid (heap_alloc_new _ _)
  have HB := Lib.hid (HB.out.trans (hal.mono HB.out.size))
  have HNp := Lib.hid ((hal.block _ (Array.getElem?_eq_some_iff.1 HNp.out).1).trans HNp.out)
  have HNq := Lib.hid ((hal.block _ (Array.getElem?_eq_some_iff.1 HNq.out).1).trans HNq.out)
  have HNf := Lib.hid ((hal.block _ (Array.getElem?_eq_some_iff.1 HNf.out).1).trans HNf.out)
  have HNt := Lib.hid ((hal.block _ (Array.getElem?_eq_some_iff.1 HNt.out).1).trans HNt.out)
  have HNm := Lib.hid ((hal.block _ (Array.getElem?_eq_some_iff.1 HNm.out).1).trans HNm.out)
  have HNx := Lib.hid ((hal.block _ (Array.getElem?_eq_some_iff.1 HNx.out).1).trans HNx.out)
  obtain ⟨av, hav⟩ : ∃ qq, w3.alloc (.cells #[.int .i64 WF, .int .i64 WT] 23) = qq := ⟨_, rfl⟩
  obtain ⟨bkv, hbv⟩ : ∃ qq, w3.heap.size = qq := ⟨_, rfl⟩
  rw [hav] at HB HNv HNp HNq HNf HNt HNm HNx
  rw [hbv] at HNv HSv
  clear hal
  have zp0 := cellH HNp.out 0
  have zp1 := cellH HNp.out 1
  simp only [List.getElem?_toArray, List.getElem?_cons_zero, List.getElem?_cons_succ] at zp0 zp1
  go_wp2_with fail
  try clear hav hbv
  refine (H4.out _).mono ?_
  rintro e w4 ⟨rfl, hb⟩
  clear zp0 zp1
  have HB := Lib.hid (HB.out.trans (hb.mono HB.out.size))
  have HNp := Lib.hid ((hb.block _ (Array.getElem?_eq_some_iff.1 HNp.out).1).trans HNp.out)
  have HNq := Lib.hid ((hb.block _ (Array.getElem?_eq_some_iff.1 HNq.out).1).trans HNq.out)
  have HNf := Lib.hid ((hb.block _ (Array.getElem?_eq_some_iff.1 HNf.out).1).trans HNf.out)
  have HNt := Lib.hid ((hb.block _ (Array.getElem?_eq_some_iff.1 HNt.out).1).trans HNt.out)
  have HNm := Lib.hid ((hb.block _ (Array.getElem?_eq_some_iff.1 HNm.out).1).trans HNm.out)
  have HNx := Lib.hid ((hb.block _ (Array.getElem?_eq_some_iff.1 HNx.out).1).trans HNx.out)
  have HNv := Lib.hid ((hb.block _ (Array.getElem?_eq_some_iff.1 HNv.out).1).trans HNv.out)
  clear hb
  have hal : Below w4.heap.size w4 (w4.alloc (.cells #[.int .i64 WF, .int .i64 WT, .bool WB] 29)) := (Below.refl _ w4).alloc (Nat.le_refl _) _
  have HSy : Hid (w.heap.size ≤ w4.heap.size) := Lib.hid HB.out.size
  have HNy : Hid ((w4.alloc (.cells #[.int .i64 WF, .int .i64 WT, .bool WB] 29)).heap[w4.heap.size]? = some (.cells #[.int .i64 WF, .int .i64 WT, .bool WB] 29 (0, 0))) := Lib.hid (heap_alloc_new _ _)
  have HB := Lib.hid (HB.out.trans (hal.mono HB.out.size))
  have HNp := Lib.hid ((hal.block _ (Array.getElem?_eq_some_iff.1 HNp.out).1).trans HNp.out)
  have HNq := Lib.hid ((hal.block _ (Array.getElem?_eq_some_iff.1 HNq.out).1).trans HNq.out)
  have HNf := Lib.hid ((hal.block _ (Array.getElem?_eq_some_iff.1 HNf.out).1).trans HNf.out)
  have HNt := Lib.hid ((hal.block _ (Array.getElem?_eq_some_iff.1 HNt.out).1).trans HNt.out)
  have HNm := Lib.hid ((hal.block _ (Array.getElem?_eq_some_iff.1 HNm.out).1).trans HNm.out)
  have HNx := Lib.hid ((hal.block _ (Array.getElem?_eq_some_iff.1 HNx.out).1).trans HNx.out)
  have HNv := Lib.hid ((hal.block _ (Array.getElem?_eq_some_iff.1 HNv.out).1).trans HNv.out)
  obtain ⟨ay, hay⟩ : ∃ qq, w4.alloc (.cells #[.int .i64 WF, .int .i64 WT, .bool WB] 29) = qq := ⟨_, rfl⟩
  obtain ⟨bky, hby⟩ : ∃ qq, w4.heap.size = qq := ⟨_, rfl⟩
  rw [hay] at HB HNy HNp HNq HNf HNt HNm HNx HNv
  rw [hby] at HNy HSy
  clear hal
  have HRD : Hid (∀ W', Below ay.heap.size ay W' → W'.cell? ⟨w.heap.size, 0, none⟩ = some (.int .i64 af) ∧ W'.cell? ⟨w.heap.size, 1, none⟩ = some (.int .i64 at') ∧ W'.cell? ⟨w.heap.size + 1, 0, none⟩ = some (.int .i64 bf) ∧ W'.cell? ⟨w.heap.size + 1, 1, none⟩ = some (.int .i64 bt) ∧ W'.cell? ⟨w.heap.size + 1 + 1, 0, none⟩ = some (.int .i64 a) ∧ W'.cell? ⟨w.heap.size + 1 + 1, 1, none⟩ = some (.int .i64 b) ∧ W'.cell? ⟨w.heap.size + 1 + 1 + 1, 0, none⟩ = some (.int .i64 c) ∧ W'.cell? ⟨w.heap.size + 1 + 1 + 1, 1, none⟩ = some (.int .i64 d) ∧ W'.cell? ⟨bkm, 0, none⟩ = some (.int .i64 MF) ∧ W'.cell? ⟨bkm, 1, none⟩ = some (.int .i64 MT) ∧ W'.cell? ⟨bkx, 0, none⟩ = some (.int .i64 MF) ∧ W'.cell? ⟨bkx, 1, none⟩ = some (.int .i64 MT) ∧ W'.cell? ⟨bkx, 2, none⟩ = some (.bool MB) ∧ W'.cell? ⟨bkv, 0, none⟩ = some (.int .i64 WF) ∧ W'.cell? ⟨bkv, 1, none⟩ = some (.int .i64 WT) ∧ W'.cell? ⟨bky, 0, none⟩ = some (.int .i64 WF) ∧ W'.cell? ⟨bky, 1, none⟩ = some (.int .i64 WT) ∧ W'.cell? ⟨bky, 2, none⟩ = some (.bool WB)) := Lib.hid (fun W' h => ⟨cellH ((h.block _ (Array.getElem?_eq_some_iff.1 HNp.out).1).trans HNp.out) 0, cellH ((h.block _ (Array.getElem?_eq_some_iff.1 HNp.out).1).trans HNp.out) 1, cellH ((h.block _ (Array.getElem?_eq_some_iff.1 HNq.out).1).trans HNq.out) 0, cellH ((h.block _ (Array.getElem?_eq_some_iff.1 HNq.out).1).trans HNq.out) 1, cellH ((h.block _ (Array.getElem?_eq_some_iff.1 HNf.out).1).trans HNf.out) 0, cellH ((h.block _ (Array.getElem?_eq_some_iff.1 HNf.out).1).trans HNf.out) 1, cellH ((h.block _ (Array.getElem?_eq_some_iff.1 HNt.out).1).trans HNt.out) 0, cellH ((h.block _ (Array.getElem?_eq_some_iff.1 HNt.out).1).trans HNt.out) 1, cellH ((h.block _ (Array.getElem?_eq_some_iff.1 HNm.out).1).trans HNm.out) 0, cellH ((h.block _ (Array.getElem?_eq_some_iff.1 HNm.out).1).trans HNm.out) 1, cellH ((h.block _ (Array.getElem?_eq_some_iff.1 HNx.out).1).trans HNx.out) 0, cellH ((h.block _ (Array.getElem?_eq_some_iff.1 HNx.out).1).trans HNx.out) 1, cellH ((h.block _ (Array.getElem?_eq_some_iff.1 HNx.out).1).trans HNx.out) 2, cellH ((h.block _ (Array.getElem?_eq_some_iff.1 HNv.out).1).trans HNv.out) 0, cellH ((h.block _ (Array.getElem?_eq_some_iff.1 HNv.out).1).trans HNv.out) 1, cellH ((h.block _ (Array.getElem?_eq_some_iff.1 HNy.out).1).trans HNy.out) 0, cellH ((h.block _ (Array.getElem?_eq_some_iff.1 HNy.out).1).trans HNy.out) 1, cellH ((h.block _ (Array.getElem?_eq_some_iff.1 HNy.out).1).trans HNy.out) 2⟩)
  have C5 := Lib.hid (upC (Z := ay) H5.out)
  have C6 := Lib.hid (upC (Z := ay) H6.out)
  have C7 := Lib.hid (upC (Z := ay) H7.out)
  have C8 := Lib.hid (upC (Z := ay) H8.out)
  have C9 := Lib.hid (upC (Z := ay) H9.out)
  go_wp2_with fail
  try clear hay hby
  refine wp_region_turn 43 (fun _ w' => Below ay.heap.size ay w') (by kernel_rfl) (by kernel_rfl) ((Below.refl _ ay).drew) ?_
  simp only [List.take_succ_cons, List.take_zero, List.drop_succ_cons, List.drop_zero]
  iterate 43
    (first
      | (apply turnC_skip (by rfl))
      | (apply turnC_step (by rfl); (intro w' hw'; obtain ⟨zp0, zp1, zq0, zq1, zf0, zf1, zt0, zt1, zm0, zm1, zx0, zx1, zx2, zv0, zv1, zy0, zy1, zy2⟩ := HRD.out w' hw'; go_simp; first | with_reducible exact ⟨hw', rfl⟩ | with_reducible exact rfl))
      | (apply turnC_step (by rfl); (intro w' hw'; go_simp; first | with_reducible exact C5.out w' hw' | with_reducible exact C6.out w' hw' | with_reducible exact C7.out w' hw' | with_reducible exact C8.out w' hw' | with_reducible exact C9.out w' hw')))
    simp only [Act.put, List.setIfInBounds_toArray, List.set_cons_succ, List.set_cons_zero]
  intro listed w5 _ hb
  have HB := Lib.hid (HB.out.trans (hb.mono HB.out.size))
  have HNp := Lib.hid ((hb.block _ (Array.getElem?_eq_some_iff.1 HNp.out).1).trans HNp.out)
  have HNq := Lib.hid ((hb.block _ (Array.getElem?_eq_some_iff.1 HNq.out).1).trans HNq.out)
  have HNf := Lib.hid ((hb.block _ (Array.getElem?_eq_some_iff.1 HNf.out).1).trans HNf.out)
  have HNt := Lib.hid ((hb.block _ (Array.getElem?_eq_some_iff.1 HNt.out).1).trans HNt.out)
  have HNm := Lib.hid ((hb.block _ (Array.getElem?_eq_some_iff.1 HNm.out).1).trans HNm.out)
  have HNx := Lib.hid ((hb.block _ (Array.getElem?_eq_some_iff.1 HNx.out).1).trans HNx.out)
  have HNv := Lib.hid ((hb.block _ (Array.getElem?_eq_some_iff.1 HNv.out).1).trans HNv.out)
  have HNy := Lib.hid ((hb.block _ (Array.getElem?_eq_some_iff.1 HNy.out).1).trans HNy.out)
  clear hb
  go_wp2_with fail
  go_ret
  exact ⟨rfl, HB.out⟩
end Go.Proofs.Ytpaihnjgpookjaa
