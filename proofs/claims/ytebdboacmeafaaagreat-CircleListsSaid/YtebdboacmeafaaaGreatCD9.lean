/- Package firetowerlaw05: example, sanity. -/
import Derived.Test.YtebdboacmeafaaaGreatCDC
import Derived.Laws.StructEq
set_option linter.unusedVariables false
set_option linter.unusedSimpArgs false
namespace Go.Proofs.YtebdboacmeafaaaGreat
open Go Go.RowKit

theorem P2Row.keep {A B : World} {v : Value} {l : List Pi2} (h : P2Row A v l) (hb : Below A.heap.size A B) : P2Row B v l := by
  rcases h with h | ⟨b, off, cap, hv, hlt, hc⟩
  · exact .inl h
  · exact .inr ⟨b, off, cap, hv, Nat.lt_of_lt_of_le hlt hb.size, fun i hi => by rw [cell_keep hb hlt, cell_keep hb hlt]; exact hc i hi⟩
theorem ex_v10 : hvV 892 898 10 10 = .agg #[.int .i64 450, .int .i64 (-8), .int .i64 4420, .int .i64 (-450), .int .i64 2, .int .i64 (-4480)] ∧ hvB 892 898 10 10 = true := ⟨by kernel_rfl, by kernel_rfl⟩
theorem info_cs2 : (Tryz.prog.info? 25).map (·.size) = some 2 := by kernel_rfl
set_option maxRecDepth 100000 in
set_option maxHeartbeats 4000000 in
theorem example_any (w : World) : Calls Tryz.prog 28 #[] w fun e w' => ∃ g1 g2, e = .returned (.agg #[.slice (some ⟨g1, 0, none⟩) 1 1, .slice (some ⟨g2, 0, none⟩) 1 1]) ∧ Below w.heap.size w w' ∧
    w'.heap[g1]? = some (.cells #[.int .i64 1, .int .i64 10, .int .i64 10, .int .i64 0, .int .i64 1000, .int .i64 (-5), .int .i64 5, .int .i64 6] 93 (0, 0)) ∧
    w'.heap[g2]? = some (.cells #[.int .i64 7, .int .i64 1, .int .i64 100, .int .i64 20, .int .i64 15, .int .i64 230, .int .i64 2] 67 (0, 0)) ∧ w.heap.size ≤ g2 := by
  have HA := Lib.hid (cells3 w #[.slice (some ⟨w.heap.size + 1, 0, none⟩) 1 1, .slice (some ⟨w.heap.size + 1 + 1, 0, none⟩) 1 1] #[.int .i64 1, .int .i64 10, .int .i64 10, .int .i64 0, .int .i64 1000, .int .i64 (-5), .int .i64 5, .int .i64 6] #[.int .i64 7, .int .i64 1, .int .i64 100, .int .i64 20, .int .i64 15, .int .i64 230, .int .i64 2] 25 93 67 (Below.refl _ _))
  go_enter Tryz.func28, Tryz.ntmps28
  go_wp2_with fail
  refine bodyPost_ret (results_cell_row Tryz.results28 _ _ w.heap.size 25 _ (0, 0) _ rfl HA.out.1 Tryz.underlying25 rfl info_cs2) rfl ?_
  exact ⟨_, _, rfl, HA.out.2.2.2.2, HA.out.2.1, HA.out.2.2.1, by omega⟩
theorem ex_ci {w : World} {g : Nat} (h : w.heap[g]? = some (.cells #[.int .i64 1, .int .i64 10, .int .i64 10, .int .i64 0, .int .i64 1000, .int .i64 (-5), .int .i64 5, .int .i64 6] 93 (0, 0))) : CiRow w (.slice (some ⟨g, 0, none⟩) 1 1) exC := by
  refine .inr ⟨g, 0, 1, rfl, Nat.le_refl _, (Array.getElem?_eq_some_iff.1 h).1, fun i hi => ?_⟩
  obtain rfl : i = 0 := by have : i < 1 := hi; omega
  exact ⟨cellH h 0, cellH h 1, cellH h 2, cellH h 3, cellH h 4, cellH h 5, cellH h 6, cellH h 7⟩
theorem ex_ck {w : World} {g : Nat} (h : w.heap[g]? = some (.cells #[.int .i64 7, .int .i64 1, .int .i64 100, .int .i64 20, .int .i64 15, .int .i64 230, .int .i64 2] 67 (0, 0))) : CkRow w (.slice (some ⟨g, 0, none⟩) 1 1) exK := by
  refine .inr ⟨g, 0, 1, rfl, Nat.le_refl _, (Array.getElem?_eq_some_iff.1 h).1, fun i hi => ?_⟩
  obtain rfl : i = 0 := by have : i < 1 := hi; omega
  exact ⟨cellH h 0, cellH h 1, cellH h 2, cellH h 3, cellH h 4, cellH h 5, cellH h 6⟩
theorem ex_ck2 {w : World} {base : Nat} {v : Value} (h : w.ownsRow base 67 7 v 2 [.int .i64 7, .int .i64 1, .int .i64 100, .int .i64 20, .int .i64 15, .int .i64 230, .int .i64 2, .int .i64 9, .int .i64 1, .int .i64 105, .int .i64 20, .int .i64 15, .int .i64 240, .int .i64 2]) : CkRow w v exK2 := by
  rcases h.2 with ⟨_, h2⟩ | ⟨nb, nc, cur, e1, e2, e3, e4, e5, e6, e7⟩
  · cases h2
  · refine .inr ⟨nb, 0, nc, e1, e4, (Array.getElem?_eq_some_iff.1 e3).1, fun i hi => ?_⟩
    have h7 : cur.toList.take 14 = [.int .i64 7, .int .i64 1, .int .i64 100, .int .i64 20, .int .i64 15, .int .i64 230, .int .i64 2, .int .i64 9, .int .i64 1, .int .i64 105, .int .i64 20, .int .i64 15, .int .i64 240, .int .i64 2] := by simpa using e7
    have hk : ∀ j, j < 14 → w.cell? ⟨nb, j, none⟩ = [.int .i64 7, .int .i64 1, .int .i64 100, .int .i64 20, .int .i64 15, .int .i64 230, .int .i64 2, .int .i64 9, .int .i64 1, .int .i64 105, .int .i64 20, .int .i64 15, .int .i64 240, .int .i64 2][j]? := fun j hj => by
      rw [cellH e3, ← h7, List.getElem?_take_of_lt hj, Array.getElem?_toList]
    rcases (by have : i < 2 := hi; omega : i = 0 ∨ i = 1) with rfl | rfl
    · exact ⟨hk 0 (by decide), hk 1 (by decide), hk 2 (by decide), hk 3 (by decide), hk 4 (by decide), hk 5 (by decide), hk 6 (by decide)⟩
    · exact ⟨hk 7 (by decide), hk 8 (by decide), hk 9 (by decide), hk 10 (by decide), hk 11 (by decide), hk 12 (by decide), hk 13 (by decide)⟩
theorem info_ck3 : (Tryz.prog.info? 67).map (fun i => (i.zero, i.size, i.bytes)) = some (some (.agg #[.int .i64 0, .int .i64 0, .int .i64 0, .int .i64 0, .int .i64 0, .int .i64 0, .int .i64 0]), 7, 56) := by kernel_rfl
theorem cell_new (w : World) (C : Array Value) (t : TypeId) (j : Nat) (u : Value) (h : C[j]? = some u) : (w.alloc (.cells C t)).cell? ((⟨w.heap.size, 0, none⟩ : Addr).add j) = some u := by
  rw [addr_add, Nat.zero_add, World.cell?_alloc_new]; exact h
set_option maxRecDepth 100000 in
set_option maxHeartbeats 8000000 in
theorem sanity_any (w : World) : Calls Tryz.prog 8 #[] w fun e w' => e = .returned (.bool true) ∧ Below w.heap.size w w' := by
  go_enter Tryz.func8, Tryz.ntmps8
  go_wp2_with fail
  refine (example_any _).mono ?_
  rintro e w0 ⟨g1, g2, rfl, hb0, h1, h2, h3⟩
  have HB := Lib.hid hb0
  have HG1 := Lib.hid h1
  have HG2 := Lib.hid h2
  have HG3 := Lib.hid h3
  clear hb0 h1 h2 h3
  have HSc : Hid (w.heap.size ≤ w0.heap.size) := Lib.hid HB.out.size
  have hal : Below w0.heap.size w0 (w0.alloc (.cells #[.slice (some ⟨g1, 0, none⟩) 1 1, .slice (some ⟨g2, 0, none⟩) 1 1] 25)) := (Below.refl _ w0).alloc (Nat.le_refl _) _
  have HNc : Hid ((w0.alloc (.cells #[.slice (some ⟨g1, 0, none⟩) 1 1, .slice (some ⟨g2, 0, none⟩) 1 1] 25)).heap[w0.heap.size]? = some (.cells #[.slice (some ⟨g1, 0, none⟩) 1 1, .slice (some ⟨g2, 0, none⟩) 1 1] 25 (0, 0))) := Lib.hid (heap_alloc_new _ _)
  have HB := Lib.hid (HB.out.trans (hal.mono HB.out.size))
  have HG1 := Lib.hid ((hal.block _ (Array.getElem?_eq_some_iff.1 HG1.out).1).trans HG1.out)
  have HG2 := Lib.hid ((hal.block _ (Array.getElem?_eq_some_iff.1 HG2.out).1).trans HG2.out)
  obtain ⟨wc, hwc⟩ : ∃ qq, w0.alloc (.cells #[.slice (some ⟨g1, 0, none⟩) 1 1, .slice (some ⟨g2, 0, none⟩) 1 1] 25) = qq := ⟨_, rfl⟩
  obtain ⟨bc, hbc⟩ : ∃ qq, w0.heap.size = qq := ⟨_, rfl⟩
  rw [hwc] at HB HNc HG1 HG2
  rw [hbc] at HNc HSc
  clear hal
  have zg10 := cellH HG1.out 0
  have zg11 := cellH HG1.out 1
  have zg12 := cellH HG1.out 2
  have zg13 := cellH HG1.out 3
  have zg14 := cellH HG1.out 4
  have zg15 := cellH HG1.out 5
  have zg16 := cellH HG1.out 6
  have zg17 := cellH HG1.out 7
  have zg20 := cellH HG2.out 0
  have zg21 := cellH HG2.out 1
  have zg22 := cellH HG2.out 2
  have zg23 := cellH HG2.out 3
  have zg24 := cellH HG2.out 4
  have zg25 := cellH HG2.out 5
  have zg26 := cellH HG2.out 6
  have zbc0 := cellH HNc.out 0
  have zbc1 := cellH HNc.out 1
  simp only [List.getElem?_toArray, List.getElem?_cons_zero, List.getElem?_cons_succ] at zg10 zg11 zg12 zg13 zg14 zg15 zg16 zg17 zg20 zg21 zg22 zg23 zg24 zg25 zg26 zbc0 zbc1
  go_wp2_with fail
  try clear hwc
  refine (Division_any 10 10 7 9 _).mono ?_
  rintro e w1 ⟨rfl, hb⟩
  rw [ex_v1]
  clear zg10 zg11 zg12 zg13 zg14 zg15 zg16 zg17 zg20 zg21 zg22 zg23 zg24 zg25 zg26 zbc0 zbc1
  have HB := Lib.hid (HB.out.trans (hb.mono HB.out.size))
  have HG1 := Lib.hid ((hb.block _ (Array.getElem?_eq_some_iff.1 HG1.out).1).trans HG1.out)
  have HG2 := Lib.hid ((hb.block _ (Array.getElem?_eq_some_iff.1 HG2.out).1).trans HG2.out)
  have HNc := Lib.hid ((hb.block _ (Array.getElem?_eq_some_iff.1 HNc.out).1).trans HNc.out)
  clear hb
  have zg10 := cellH HG1.out 0
  have zg11 := cellH HG1.out 1
  have zg12 := cellH HG1.out 2
  have zg13 := cellH HG1.out 3
  have zg14 := cellH HG1.out 4
  have zg15 := cellH HG1.out 5
  have zg16 := cellH HG1.out 6
  have zg17 := cellH HG1.out 7
  have zg20 := cellH HG2.out 0
  have zg21 := cellH HG2.out 1
  have zg22 := cellH HG2.out 2
  have zg23 := cellH HG2.out 3
  have zg24 := cellH HG2.out 4
  have zg25 := cellH HG2.out 5
  have zg26 := cellH HG2.out 6
  have zbc0 := cellH HNc.out 0
  have zbc1 := cellH HNc.out 1
  simp only [List.getElem?_toArray, List.getElem?_cons_zero, List.getElem?_cons_succ] at zg10 zg11 zg12 zg13 zg14 zg15 zg16 zg17 zg20 zg21 zg22 zg23 zg24 zg25 zg26 zbc0 zbc1
  go_wp2_with fail
  try clear hw1
  refine (Alone_any _ _ exC exK 7 _ (ex_ci HG1.out) (ex_ck HG2.out) (by decide) (by decide)).mono ?_
  rintro e w2 ⟨rfl, hb⟩
  rw [ex_v2]
  clear zg10 zg11 zg12 zg13 zg14 zg15 zg16 zg17 zg20 zg21 zg22 zg23 zg24 zg25 zg26 zbc0 zbc1
  have HB := Lib.hid (HB.out.trans (hb.mono HB.out.size))
  have HG1 := Lib.hid ((hb.block _ (Array.getElem?_eq_some_iff.1 HG1.out).1).trans HG1.out)
  have HG2 := Lib.hid ((hb.block _ (Array.getElem?_eq_some_iff.1 HG2.out).1).trans HG2.out)
  have HNc := Lib.hid ((hb.block _ (Array.getElem?_eq_some_iff.1 HNc.out).1).trans HNc.out)
  clear hb
  have HSa : Hid (w.heap.size ≤ w2.heap.size) := Lib.hid HB.out.size
  have hal : Below w2.heap.size w2 (w2.alloc (.cells #[.int .i64 3, .int .i64 7] 36)) := (Below.refl _ w2).alloc (Nat.le_refl _) _
  have HNa : Hid ((w2.alloc (.cells #[.int .i64 3, .int .i64 7] 36)).heap[w2.heap.size]? = some (.cells #[.int .i64 3, .int .i64 7] 36 (0, 0))) := Lib.hid (heap_alloc_new _ _)
  have HB := Lib.hid (HB.out.trans (hal.mono HB.out.size))
  have HG1 := Lib.hid ((hal.block _ (Array.getElem?_eq_some_iff.1 HG1.out).1).trans HG1.out)
  have HG2 := Lib.hid ((hal.block _ (Array.getElem?_eq_some_iff.1 HG2.out).1).trans HG2.out)
  have HNc := Lib.hid ((hal.block _ (Array.getElem?_eq_some_iff.1 HNc.out).1).trans HNc.out)
  obtain ⟨wa, hwa⟩ : ∃ qq, w2.alloc (.cells #[.int .i64 3, .int .i64 7] 36) = qq := ⟨_, rfl⟩
  obtain ⟨ba, hba⟩ : ∃ qq, w2.heap.size = qq := ⟨_, rfl⟩
  rw [hwa] at HB HNa HG1 HG2 HNc
  rw [hba] at HNa HSa
  clear hal
  have zg10 := cellH HG1.out 0
  have zg11 := cellH HG1.out 1
  have zg12 := cellH HG1.out 2
  have zg13 := cellH HG1.out 3
  have zg14 := cellH HG1.out 4
  have zg15 := cellH HG1.out 5
  have zg16 := cellH HG1.out 6
  have zg17 := cellH HG1.out 7
  have zg20 := cellH HG2.out 0
  have zg21 := cellH HG2.out 1
  have zg22 := cellH HG2.out 2
  have zg23 := cellH HG2.out 3
  have zg24 := cellH HG2.out 4
  have zg25 := cellH HG2.out 5
  have zg26 := cellH HG2.out 6
  have zbc0 := cellH HNc.out 0
  have zbc1 := cellH HNc.out 1
  have zba0 := cellH HNa.out 0
  have zba1 := cellH HNa.out 1
  simp only [List.getElem?_toArray, List.getElem?_cons_zero, List.getElem?_cons_succ] at zg10 zg11 zg12 zg13 zg14 zg15 zg16 zg17 zg20 zg21 zg22 zg23 zg24 zg25 zg26 zbc0 zbc1 zba0 zba1
  go_wp2_with fail
  try clear hwa
  refine (Zero_any _ _ exC exK 1 130 _ (ex_ci HG1.out) (ex_ck HG2.out) (by decide) (by decide)).mono ?_
  rintro e w3 ⟨rfl, hb⟩
  rw [ex_v3]
  clear zg10 zg11 zg12 zg13 zg14 zg15 zg16 zg17 zg20 zg21 zg22 zg23 zg24 zg25 zg26 zbc0 zbc1 zba0 zba1
  have HB := Lib.hid (HB.out.trans (hb.mono HB.out.size))
  have HG1 := Lib.hid ((hb.block _ (Array.getElem?_eq_some_iff.1 HG1.out).1).trans HG1.out)
  have HG2 := Lib.hid ((hb.block _ (Array.getElem?_eq_some_iff.1 HG2.out).1).trans HG2.out)
  have HNc := Lib.hid ((hb.block _ (Array.getElem?_eq_some_iff.1 HNc.out).1).trans HNc.out)
  have HNa := Lib.hid ((hb.block _ (Array.getElem?_eq_some_iff.1 HNa.out).1).trans HNa.out)
  clear hb
  have HSz : Hid (w.heap.size ≤ w3.heap.size) := Lib.hid HB.out.size
  have hal : Below w3.heap.size w3 (w3.alloc (.cells #[.int .i64 0, .int .i64 10] 36)) := (Below.refl _ w3).alloc (Nat.le_refl _) _
  have HNz : Hid ((w3.alloc (.cells #[.int .i64 0, .int .i64 10] 36)).heap[w3.heap.size]? = some (.cells #[.int .i64 0, .int .i64 10] 36 (0, 0))) := Lib.hid (heap_alloc_new _ _)
  have HB := Lib.hid (HB.out.trans (hal.mono HB.out.size))
  have HG1 := Lib.hid ((hal.block _ (Array.getElem?_eq_some_iff.1 HG1.out).1).trans HG1.out)
  have HG2 := Lib.hid ((hal.block _ (Array.getElem?_eq_some_iff.1 HG2.out).1).trans HG2.out)
  have HNc := Lib.hid ((hal.block _ (Array.getElem?_eq_some_iff.1 HNc.out).1).trans HNc.out)
  have HNa := Lib.hid ((hal.block _ (Array.getElem?_eq_some_iff.1 HNa.out).1).trans HNa.out)
  obtain ⟨wz, hwz⟩ : ∃ qq, w3.alloc (.cells #[.int .i64 0, .int .i64 10] 36) = qq := ⟨_, rfl⟩
  obtain ⟨bz, hbz⟩ : ∃ qq, w3.heap.size = qq := ⟨_, rfl⟩
  rw [hwz] at HB HNz HG1 HG2 HNc HNa
  rw [hbz] at HNz HSz
  clear hal
  have zg10 := cellH HG1.out 0
  have zg11 := cellH HG1.out 1
  have zg12 := cellH HG1.out 2
  have zg13 := cellH HG1.out 3
  have zg14 := cellH HG1.out 4
  have zg15 := cellH HG1.out 5
  have zg16 := cellH HG1.out 6
  have zg17 := cellH HG1.out 7
  have zg20 := cellH HG2.out 0
  have zg21 := cellH HG2.out 1
  have zg22 := cellH HG2.out 2
  have zg23 := cellH HG2.out 3
  have zg24 := cellH HG2.out 4
  have zg25 := cellH HG2.out 5
  have zg26 := cellH HG2.out 6
  have zbc0 := cellH HNc.out 0
  have zbc1 := cellH HNc.out 1
  have zba0 := cellH HNa.out 0
  have zba1 := cellH HNa.out 1
  have zbz0 := cellH HNz.out 0
  have zbz1 := cellH HNz.out 1
  simp only [List.getElem?_toArray, List.getElem?_cons_zero, List.getElem?_cons_succ] at zg10 zg11 zg12 zg13 zg14 zg15 zg16 zg17 zg20 zg21 zg22 zg23 zg24 zg25 zg26 zbc0 zbc1 zba0 zba1 zbz0 zbz1
  go_wp2_with fail
  try clear hwz
  refine (Rests_any _ _ exC exK 1 130 _ (ex_ci HG1.out) (ex_ck HG2.out) (by decide) (by decide)).mono ?_
  rintro e w4 ⟨rfl, hb⟩
  rw [ex_v4]
  clear zg10 zg11 zg12 zg13 zg14 zg15 zg16 zg17 zg20 zg21 zg22 zg23 zg24 zg25 zg26 zbc0 zbc1 zba0 zba1 zbz0 zbz1
  have HB := Lib.hid (HB.out.trans (hb.mono HB.out.size))
  have HG1 := Lib.hid ((hb.block _ (Array.getElem?_eq_some_iff.1 HG1.out).1).trans HG1.out)
  have HG2 := Lib.hid ((hb.block _ (Array.getElem?_eq_some_iff.1 HG2.out).1).trans HG2.out)
  have HNc := Lib.hid ((hb.block _ (Array.getElem?_eq_some_iff.1 HNc.out).1).trans HNc.out)
  have HNa := Lib.hid ((hb.block _ (Array.getElem?_eq_some_iff.1 HNa.out).1).trans HNa.out)
  have HNz := Lib.hid ((hb.block _ (Array.getElem?_eq_some_iff.1 HNz.out).1).trans HNz.out)
  clear hb
  have zg10 := cellH HG1.out 0
  have zg11 := cellH HG1.out 1
  have zg12 := cellH HG1.out 2
  have zg13 := cellH HG1.out 3
  have zg14 := cellH HG1.out 4
  have zg15 := cellH HG1.out 5
  have zg16 := cellH HG1.out 6
  have zg17 := cellH HG1.out 7
  have zg20 := cellH HG2.out 0
  have zg21 := cellH HG2.out 1
  have zg22 := cellH HG2.out 2
  have zg23 := cellH HG2.out 3
  have zg24 := cellH HG2.out 4
  have zg25 := cellH HG2.out 5
  have zg26 := cellH HG2.out 6
  have zbc0 := cellH HNc.out 0
  have zbc1 := cellH HNc.out 1
  have zba0 := cellH HNa.out 0
  have zba1 := cellH HNa.out 1
  have zbz0 := cellH HNz.out 0
  have zbz1 := cellH HNz.out 1
  simp only [List.getElem?_toArray, List.getElem?_cons_zero, List.getElem?_cons_succ] at zg10 zg11 zg12 zg13 zg14 zg15 zg16 zg17 zg20 zg21 zg22 zg23 zg24 zg25 zg26 zbc0 zbc1 zba0 zba1 zbz0 zbz1
  go_wp2_with fail
  try clear hw4
  refine (Wedge_any _ _ exC exK 1 100 900 1 _ (ex_ci HG1.out) (ex_ck HG2.out) (by decide) (by decide)).mono ?_
  rintro e w5 ⟨rfl, hb⟩
  rw [ex_v5]
  clear zg10 zg11 zg12 zg13 zg14 zg15 zg16 zg17 zg20 zg21 zg22 zg23 zg24 zg25 zg26 zbc0 zbc1 zba0 zba1 zbz0 zbz1
  have HB := Lib.hid (HB.out.trans (hb.mono HB.out.size))
  have HG1 := Lib.hid ((hb.block _ (Array.getElem?_eq_some_iff.1 HG1.out).1).trans HG1.out)
  have HG2 := Lib.hid ((hb.block _ (Array.getElem?_eq_some_iff.1 HG2.out).1).trans HG2.out)
  have HNc := Lib.hid ((hb.block _ (Array.getElem?_eq_some_iff.1 HNc.out).1).trans HNc.out)
  have HNa := Lib.hid ((hb.block _ (Array.getElem?_eq_some_iff.1 HNa.out).1).trans HNa.out)
  have HNz := Lib.hid ((hb.block _ (Array.getElem?_eq_some_iff.1 HNz.out).1).trans HNz.out)
  clear hb
  have HSw : Hid (w.heap.size ≤ w5.heap.size) := Lib.hid HB.out.size
  have hal : Below w5.heap.size w5 (w5.alloc (.cells #[.int .i64 892, .int .i64 898] 77)) := (Below.refl _ w5).alloc (Nat.le_refl _) _
  have HNw : Hid ((w5.alloc (.cells #[.int .i64 892, .int .i64 898] 77)).heap[w5.heap.size]? = some (.cells #[.int .i64 892, .int .i64 898] 77 (0, 0))) := Lib.hid (heap_alloc_new _ _)
  have HB := Lib.hid (HB.out.trans (hal.mono HB.out.size))
  have HG1 := Lib.hid ((hal.block _ (Array.getElem?_eq_some_iff.1 HG1.out).1).trans HG1.out)
  have HG2 := Lib.hid ((hal.block _ (Array.getElem?_eq_some_iff.1 HG2.out).1).trans HG2.out)
  have HNc := Lib.hid ((hal.block _ (Array.getElem?_eq_some_iff.1 HNc.out).1).trans HNc.out)
  have HNa := Lib.hid ((hal.block _ (Array.getElem?_eq_some_iff.1 HNa.out).1).trans HNa.out)
  have HNz := Lib.hid ((hal.block _ (Array.getElem?_eq_some_iff.1 HNz.out).1).trans HNz.out)
  obtain ⟨ww, hww⟩ : ∃ qq, w5.alloc (.cells #[.int .i64 892, .int .i64 898] 77) = qq := ⟨_, rfl⟩
  obtain ⟨bw, hbw⟩ : ∃ qq, w5.heap.size = qq := ⟨_, rfl⟩
  rw [hww] at HB HNw HG1 HG2 HNc HNa HNz
  rw [hbw] at HNw HSw
  clear hal
  have zg10 := cellH HG1.out 0
  have zg11 := cellH HG1.out 1
  have zg12 := cellH HG1.out 2
  have zg13 := cellH HG1.out 3
  have zg14 := cellH HG1.out 4
  have zg15 := cellH HG1.out 5
  have zg16 := cellH HG1.out 6
  have zg17 := cellH HG1.out 7
  have zg20 := cellH HG2.out 0
  have zg21 := cellH HG2.out 1
  have zg22 := cellH HG2.out 2
  have zg23 := cellH HG2.out 3
  have zg24 := cellH HG2.out 4
  have zg25 := cellH HG2.out 5
  have zg26 := cellH HG2.out 6
  have zbc0 := cellH HNc.out 0
  have zbc1 := cellH HNc.out 1
  have zba0 := cellH HNa.out 0
  have zba1 := cellH HNa.out 1
  have zbz0 := cellH HNz.out 0
  have zbz1 := cellH HNz.out 1
  have zbw0 := cellH HNw.out 0
  have zbw1 := cellH HNw.out 1
  simp only [List.getElem?_toArray, List.getElem?_cons_zero, List.getElem?_cons_succ] at zg10 zg11 zg12 zg13 zg14 zg15 zg16 zg17 zg20 zg21 zg22 zg23 zg24 zg25 zg26 zbc0 zbc1 zba0 zba1 zbz0 zbz1 zbw0 zbw1
  go_wp2_with fail
  try clear hww
  refine (Vector_any 2000 _).mono ?_
  rintro e w6 ⟨rfl, hb⟩
  rw [ex_v6.1, ex_v6.2]
  clear zg10 zg11 zg12 zg13 zg14 zg15 zg16 zg17 zg20 zg21 zg22 zg23 zg24 zg25 zg26 zbc0 zbc1 zba0 zba1 zbz0 zbz1 zbw0 zbw1
  have HB := Lib.hid (HB.out.trans (hb.mono HB.out.size))
  have HG1 := Lib.hid ((hb.block _ (Array.getElem?_eq_some_iff.1 HG1.out).1).trans HG1.out)
  have HG2 := Lib.hid ((hb.block _ (Array.getElem?_eq_some_iff.1 HG2.out).1).trans HG2.out)
  have HNc := Lib.hid ((hb.block _ (Array.getElem?_eq_some_iff.1 HNc.out).1).trans HNc.out)
  have HNa := Lib.hid ((hb.block _ (Array.getElem?_eq_some_iff.1 HNa.out).1).trans HNa.out)
  have HNz := Lib.hid ((hb.block _ (Array.getElem?_eq_some_iff.1 HNz.out).1).trans HNz.out)
  have HNw := Lib.hid ((hb.block _ (Array.getElem?_eq_some_iff.1 HNw.out).1).trans HNw.out)
  clear hb
  have HSv : Hid (w.heap.size ≤ w6.heap.size) := Lib.hid HB.out.size
  have hal : Below w6.heap.size w6 (w6.alloc (.cells #[.int .i64 (-450), .int .i64 (-200)] 65)) := (Below.refl _ w6).alloc (Nat.le_refl _) _
  have HNv : Hid ((w6.alloc (.cells #[.int .i64 (-450), .int .i64 (-200)] 65)).heap[w6.heap.size]? = some (.cells #[.int .i64 (-450), .int .i64 (-200)] 65 (0, 0))) := Lib.hid (heap_alloc_new _ _)
  have HB := Lib.hid (HB.out.trans (hal.mono HB.out.size))
  have HG1 := Lib.hid ((hal.block _ (Array.getElem?_eq_some_iff.1 HG1.out).1).trans HG1.out)
  have HG2 := Lib.hid ((hal.block _ (Array.getElem?_eq_some_iff.1 HG2.out).1).trans HG2.out)
  have HNc := Lib.hid ((hal.block _ (Array.getElem?_eq_some_iff.1 HNc.out).1).trans HNc.out)
  have HNa := Lib.hid ((hal.block _ (Array.getElem?_eq_some_iff.1 HNa.out).1).trans HNa.out)
  have HNz := Lib.hid ((hal.block _ (Array.getElem?_eq_some_iff.1 HNz.out).1).trans HNz.out)
  have HNw := Lib.hid ((hal.block _ (Array.getElem?_eq_some_iff.1 HNw.out).1).trans HNw.out)
  obtain ⟨wv, hwv⟩ : ∃ qq, w6.alloc (.cells #[.int .i64 (-450), .int .i64 (-200)] 65) = qq := ⟨_, rfl⟩
  obtain ⟨bv, hbv⟩ : ∃ qq, w6.heap.size = qq := ⟨_, rfl⟩
  rw [hwv] at HB HNv HG1 HG2 HNc HNa HNz HNw
  rw [hbv] at HNv HSv
  clear hal
  have zg10 := cellH HG1.out 0
  have zg11 := cellH HG1.out 1
  have zg12 := cellH HG1.out 2
  have zg13 := cellH HG1.out 3
  have zg14 := cellH HG1.out 4
  have zg15 := cellH HG1.out 5
  have zg16 := cellH HG1.out 6
  have zg17 := cellH HG1.out 7
  have zg20 := cellH HG2.out 0
  have zg21 := cellH HG2.out 1
  have zg22 := cellH HG2.out 2
  have zg23 := cellH HG2.out 3
  have zg24 := cellH HG2.out 4
  have zg25 := cellH HG2.out 5
  have zg26 := cellH HG2.out 6
  have zbc0 := cellH HNc.out 0
  have zbc1 := cellH HNc.out 1
  have zba0 := cellH HNa.out 0
  have zba1 := cellH HNa.out 1
  have zbz0 := cellH HNz.out 0
  have zbz1 := cellH HNz.out 1
  have zbw0 := cellH HNw.out 0
  have zbw1 := cellH HNw.out 1
  have zbv0 := cellH HNv.out 0
  have zbv1 := cellH HNv.out 1
  simp only [List.getElem?_toArray, List.getElem?_cons_zero, List.getElem?_cons_succ] at zg10 zg11 zg12 zg13 zg14 zg15 zg16 zg17 zg20 zg21 zg22 zg23 zg24 zg25 zg26 zbc0 zbc1 zba0 zba1 zbz0 zbz1 zbw0 zbw1 zbv0 zbv1
  go_wp2_with fail
  try clear hwv
  refine (Halves_any 892 898 10 10 _).mono ?_
  rintro e w7 ⟨rfl, hb⟩
  rw [ex_v10.1, ex_v10.2]
  clear zg10 zg11 zg12 zg13 zg14 zg15 zg16 zg17 zg20 zg21 zg22 zg23 zg24 zg25 zg26 zbc0 zbc1 zba0 zba1 zbz0 zbz1 zbw0 zbw1 zbv0 zbv1
  have HB := Lib.hid (HB.out.trans (hb.mono HB.out.size))
  have HG1 := Lib.hid ((hb.block _ (Array.getElem?_eq_some_iff.1 HG1.out).1).trans HG1.out)
  have HG2 := Lib.hid ((hb.block _ (Array.getElem?_eq_some_iff.1 HG2.out).1).trans HG2.out)
  have HNc := Lib.hid ((hb.block _ (Array.getElem?_eq_some_iff.1 HNc.out).1).trans HNc.out)
  have HNa := Lib.hid ((hb.block _ (Array.getElem?_eq_some_iff.1 HNa.out).1).trans HNa.out)
  have HNz := Lib.hid ((hb.block _ (Array.getElem?_eq_some_iff.1 HNz.out).1).trans HNz.out)
  have HNw := Lib.hid ((hb.block _ (Array.getElem?_eq_some_iff.1 HNw.out).1).trans HNw.out)
  have HNv := Lib.hid ((hb.block _ (Array.getElem?_eq_some_iff.1 HNv.out).1).trans HNv.out)
  clear hb
  have HSl : Hid (w.heap.size ≤ w7.heap.size) := Lib.hid HB.out.size
  have hal : Below w7.heap.size w7 (w7.alloc (.cells #[.int .i64 450, .int .i64 (-8), .int .i64 4420, .int .i64 (-450), .int .i64 2, .int .i64 (-4480)] 83)) := (Below.refl _ w7).alloc (Nat.le_refl _) _
  have HNl : Hid ((w7.alloc (.cells #[.int .i64 450, .int .i64 (-8), .int .i64 4420, .int .i64 (-450), .int .i64 2, .int .i64 (-4480)] 83)).heap[w7.heap.size]? = some (.cells #[.int .i64 450, .int .i64 (-8), .int .i64 4420, .int .i64 (-450), .int .i64 2, .int .i64 (-4480)] 83 (0, 0))) := Lib.hid (heap_alloc_new _ _)
  have HB := Lib.hid (HB.out.trans (hal.mono HB.out.size))
  have HG1 := Lib.hid ((hal.block _ (Array.getElem?_eq_some_iff.1 HG1.out).1).trans HG1.out)
  have HG2 := Lib.hid ((hal.block _ (Array.getElem?_eq_some_iff.1 HG2.out).1).trans HG2.out)
  have HNc := Lib.hid ((hal.block _ (Array.getElem?_eq_some_iff.1 HNc.out).1).trans HNc.out)
  have HNa := Lib.hid ((hal.block _ (Array.getElem?_eq_some_iff.1 HNa.out).1).trans HNa.out)
  have HNz := Lib.hid ((hal.block _ (Array.getElem?_eq_some_iff.1 HNz.out).1).trans HNz.out)
  have HNw := Lib.hid ((hal.block _ (Array.getElem?_eq_some_iff.1 HNw.out).1).trans HNw.out)
  have HNv := Lib.hid ((hal.block _ (Array.getElem?_eq_some_iff.1 HNv.out).1).trans HNv.out)
  obtain ⟨wl, hwl⟩ : ∃ qq, w7.alloc (.cells #[.int .i64 450, .int .i64 (-8), .int .i64 4420, .int .i64 (-450), .int .i64 2, .int .i64 (-4480)] 83) = qq := ⟨_, rfl⟩
  obtain ⟨bl, hbl⟩ : ∃ qq, w7.heap.size = qq := ⟨_, rfl⟩
  rw [hwl] at HB HNl HG1 HG2 HNc HNa HNz HNw HNv
  rw [hbl] at HNl HSl
  clear hal
  have zg10 := cellH HG1.out 0
  have zg11 := cellH HG1.out 1
  have zg12 := cellH HG1.out 2
  have zg13 := cellH HG1.out 3
  have zg14 := cellH HG1.out 4
  have zg15 := cellH HG1.out 5
  have zg16 := cellH HG1.out 6
  have zg17 := cellH HG1.out 7
  have zg20 := cellH HG2.out 0
  have zg21 := cellH HG2.out 1
  have zg22 := cellH HG2.out 2
  have zg23 := cellH HG2.out 3
  have zg24 := cellH HG2.out 4
  have zg25 := cellH HG2.out 5
  have zg26 := cellH HG2.out 6
  have zbc0 := cellH HNc.out 0
  have zbc1 := cellH HNc.out 1
  have zba0 := cellH HNa.out 0
  have zba1 := cellH HNa.out 1
  have zbz0 := cellH HNz.out 0
  have zbz1 := cellH HNz.out 1
  have zbw0 := cellH HNw.out 0
  have zbw1 := cellH HNw.out 1
  have zbv0 := cellH HNv.out 0
  have zbv1 := cellH HNv.out 1
  have zbl0 := cellH HNl.out 0
  have zbl1 := cellH HNl.out 1
  have zbl2 := cellH HNl.out 2
  have zbl3 := cellH HNl.out 3
  have zbl4 := cellH HNl.out 4
  have zbl5 := cellH HNl.out 5
  simp only [List.getElem?_toArray, List.getElem?_cons_zero, List.getElem?_cons_succ] at zg10 zg11 zg12 zg13 zg14 zg15 zg16 zg17 zg20 zg21 zg22 zg23 zg24 zg25 zg26 zbc0 zbc1 zba0 zba1 zbz0 zbz1 zbw0 zbw1 zbv0 zbv1 zbl0 zbl1 zbl2 zbl3 zbl4 zbl5
  go_wp2_with fail
  try clear hwl
  refine (Shows_any 10 10 20 15 3 2 _).mono ?_
  rintro e w8 ⟨rfl, hb⟩
  rw [ex_v7.2.1, ex_v7.2.2, ex_v7.1]
  clear zg10 zg11 zg12 zg13 zg14 zg15 zg16 zg17 zg20 zg21 zg22 zg23 zg24 zg25 zg26 zbc0 zbc1 zba0 zba1 zbz0 zbz1 zbw0 zbw1 zbv0 zbv1 zbl0 zbl1 zbl2 zbl3 zbl4 zbl5
  have HB := Lib.hid (HB.out.trans (hb.mono HB.out.size))
  have HG1 := Lib.hid ((hb.block _ (Array.getElem?_eq_some_iff.1 HG1.out).1).trans HG1.out)
  have HG2 := Lib.hid ((hb.block _ (Array.getElem?_eq_some_iff.1 HG2.out).1).trans HG2.out)
  have HNc := Lib.hid ((hb.block _ (Array.getElem?_eq_some_iff.1 HNc.out).1).trans HNc.out)
  have HNa := Lib.hid ((hb.block _ (Array.getElem?_eq_some_iff.1 HNa.out).1).trans HNa.out)
  have HNz := Lib.hid ((hb.block _ (Array.getElem?_eq_some_iff.1 HNz.out).1).trans HNz.out)
  have HNw := Lib.hid ((hb.block _ (Array.getElem?_eq_some_iff.1 HNw.out).1).trans HNw.out)
  have HNv := Lib.hid ((hb.block _ (Array.getElem?_eq_some_iff.1 HNv.out).1).trans HNv.out)
  have HNl := Lib.hid ((hb.block _ (Array.getElem?_eq_some_iff.1 HNl.out).1).trans HNl.out)
  clear hb
  have HSs : Hid (w.heap.size ≤ w8.heap.size) := Lib.hid HB.out.size
  have hal : Below w8.heap.size w8 (w8.alloc (.cells #[.int .i64 226, .int .i64 230] 36)) := (Below.refl _ w8).alloc (Nat.le_refl _) _
  have HNs : Hid ((w8.alloc (.cells #[.int .i64 226, .int .i64 230] 36)).heap[w8.heap.size]? = some (.cells #[.int .i64 226, .int .i64 230] 36 (0, 0))) := Lib.hid (heap_alloc_new _ _)
  have HB := Lib.hid (HB.out.trans (hal.mono HB.out.size))
  have HG1 := Lib.hid ((hal.block _ (Array.getElem?_eq_some_iff.1 HG1.out).1).trans HG1.out)
  have HG2 := Lib.hid ((hal.block _ (Array.getElem?_eq_some_iff.1 HG2.out).1).trans HG2.out)
  have HNc := Lib.hid ((hal.block _ (Array.getElem?_eq_some_iff.1 HNc.out).1).trans HNc.out)
  have HNa := Lib.hid ((hal.block _ (Array.getElem?_eq_some_iff.1 HNa.out).1).trans HNa.out)
  have HNz := Lib.hid ((hal.block _ (Array.getElem?_eq_some_iff.1 HNz.out).1).trans HNz.out)
  have HNw := Lib.hid ((hal.block _ (Array.getElem?_eq_some_iff.1 HNw.out).1).trans HNw.out)
  have HNv := Lib.hid ((hal.block _ (Array.getElem?_eq_some_iff.1 HNv.out).1).trans HNv.out)
  have HNl := Lib.hid ((hal.block _ (Array.getElem?_eq_some_iff.1 HNl.out).1).trans HNl.out)
  obtain ⟨ws, hws⟩ : ∃ qq, w8.alloc (.cells #[.int .i64 226, .int .i64 230] 36) = qq := ⟨_, rfl⟩
  obtain ⟨bs, hbs⟩ : ∃ qq, w8.heap.size = qq := ⟨_, rfl⟩
  rw [hws] at HB HNs HG1 HG2 HNc HNa HNz HNw HNv HNl
  rw [hbs] at HNs HSs
  clear hal
  have zg10 := cellH HG1.out 0
  have zg11 := cellH HG1.out 1
  have zg12 := cellH HG1.out 2
  have zg13 := cellH HG1.out 3
  have zg14 := cellH HG1.out 4
  have zg15 := cellH HG1.out 5
  have zg16 := cellH HG1.out 6
  have zg17 := cellH HG1.out 7
  have zg20 := cellH HG2.out 0
  have zg21 := cellH HG2.out 1
  have zg22 := cellH HG2.out 2
  have zg23 := cellH HG2.out 3
  have zg24 := cellH HG2.out 4
  have zg25 := cellH HG2.out 5
  have zg26 := cellH HG2.out 6
  have zbc0 := cellH HNc.out 0
  have zbc1 := cellH HNc.out 1
  have zba0 := cellH HNa.out 0
  have zba1 := cellH HNa.out 1
  have zbz0 := cellH HNz.out 0
  have zbz1 := cellH HNz.out 1
  have zbw0 := cellH HNw.out 0
  have zbw1 := cellH HNw.out 1
  have zbv0 := cellH HNv.out 0
  have zbv1 := cellH HNv.out 1
  have zbl0 := cellH HNl.out 0
  have zbl1 := cellH HNl.out 1
  have zbl2 := cellH HNl.out 2
  have zbl3 := cellH HNl.out 3
  have zbl4 := cellH HNl.out 4
  have zbl5 := cellH HNl.out 5
  have zbs0 := cellH HNs.out 0
  have zbs1 := cellH HNs.out 1
  simp only [List.getElem?_toArray, List.getElem?_cons_zero, List.getElem?_cons_succ] at zg10 zg11 zg12 zg13 zg14 zg15 zg16 zg17 zg20 zg21 zg22 zg23 zg24 zg25 zg26 zbc0 zbc1 zba0 zba1 zbz0 zbz1 zbw0 zbw1 zbv0 zbv1 zbl0 zbl1 zbl2 zbl3 zbl4 zbl5 zbs0 zbs1
  obtain ⟨i0, hi0, hz0, hz1, hz2⟩ := info_parts info_ck3
  have hal : Below ws.heap.size ws (ws.alloc (.cells #[.int .i64 9, .int .i64 1, .int .i64 105, .int .i64 20, .int .i64 15, .int .i64 240, .int .i64 2] 67)) := (Below.refl _ ws).alloc (Nat.le_refl _) _
  have HBA := Lib.hid (HB.out.trans (hal.mono HB.out.size))
  have hG2 := (hal.block _ (Array.getElem?_eq_some_iff.1 HG2.out).1).trans HG2.out
  have hO : (ws.alloc (.cells #[.int .i64 9, .int .i64 1, .int .i64 105, .int .i64 20, .int .i64 15, .int .i64 240, .int .i64 2] 67)).ownsRow w.heap.size 67 7 (.slice (some ⟨g2, 0, none⟩) 1 1) 1 [.int .i64 7, .int .i64 1, .int .i64 100, .int .i64 20, .int .i64 15, .int .i64 230, .int .i64 2] := ⟨rfl, .inr ⟨g2, 1, #[.int .i64 7, .int .i64 1, .int .i64 100, .int .i64 20, .int .i64 15, .int .i64 230, .int .i64 2], rfl, HG3.out, hG2, Nat.le_refl _, by unfold maxLen; decide, rfl, rfl⟩⟩
  have hnw : ∀ (j : Nat) (u : Value), [.int .i64 9, .int .i64 1, .int .i64 105, .int .i64 20, .int .i64 15, .int .i64 240, .int .i64 2][j]? = some u → (ws.alloc (.cells #[.int .i64 9, .int .i64 1, .int .i64 105, .int .i64 20, .int .i64 15, .int .i64 240, .int .i64 2] 67)).cell? ((⟨ws.heap.size, 0, none⟩ : Addr).add j) = some u := fun j u h => cell_new _ _ _ j u (by simpa using h)
  have hkHG1 := (hal.block _ (Array.getElem?_eq_some_iff.1 HG1.out).1).trans HG1.out
  have hkHNc := (hal.block _ (Array.getElem?_eq_some_iff.1 HNc.out).1).trans HNc.out
  have hkHNa := (hal.block _ (Array.getElem?_eq_some_iff.1 HNa.out).1).trans HNa.out
  have hkHNz := (hal.block _ (Array.getElem?_eq_some_iff.1 HNz.out).1).trans HNz.out
  have hkHNw := (hal.block _ (Array.getElem?_eq_some_iff.1 HNw.out).1).trans HNw.out
  have hkHNv := (hal.block _ (Array.getElem?_eq_some_iff.1 HNv.out).1).trans HNv.out
  have hkHNl := (hal.block _ (Array.getElem?_eq_some_iff.1 HNl.out).1).trans HNl.out
  have hkHNs := (hal.block _ (Array.getElem?_eq_some_iff.1 HNs.out).1).trans HNs.out
  clear hal hG2
  go_wp2_with (at_builtin; go_loud (
    refine wpList_append_own _ rfl _ _ 23 rfl w.heap.size 67 i0 (.agg #[.int .i64 0, .int .i64 0, .int .i64 0, .int .i64 0, .int .i64 0, .int .i64 0, .int .i64 0]) 7 56 Tryz.underlying23 hi0 hz0 hz1 hz2 rfl (by decide) _ _ _ rfl hO ⟨ws.heap.size, 0, none⟩ 1 1 [.int .i64 9, .int .i64 1, .int .i64 105, .int .i64 20, .int .i64 15, .int .i64 240, .int .i64 2] rfl rfl hnw (by simp [Value.oneCell']) (by unfold maxLen; decide) (by decide) HBA.out.size ?_
    intro v' wap hown' hgrow _
    obtain ⟨va, vc, rfl⟩ := row_formC hown'
    have HG1 := Lib.hid ((hgrow.block _ (Array.getElem?_eq_some_iff.1 hkHG1).1 (fun e => own_neC hO hkHG1 (by decide) e.symm)).trans hkHG1)
    have HNc := Lib.hid ((hgrow.block _ (Array.getElem?_eq_some_iff.1 hkHNc).1 (fun e => own_neC hO hkHNc (by decide) e.symm)).trans hkHNc)
    have HNa := Lib.hid ((hgrow.block _ (Array.getElem?_eq_some_iff.1 hkHNa).1 (fun e => own_neC hO hkHNa (by decide) e.symm)).trans hkHNa)
    have HNz := Lib.hid ((hgrow.block _ (Array.getElem?_eq_some_iff.1 hkHNz).1 (fun e => own_neC hO hkHNz (by decide) e.symm)).trans hkHNz)
    have HNw := Lib.hid ((hgrow.block _ (Array.getElem?_eq_some_iff.1 hkHNw).1 (fun e => own_neC hO hkHNw (by decide) e.symm)).trans hkHNw)
    have HNv := Lib.hid ((hgrow.block _ (Array.getElem?_eq_some_iff.1 hkHNv).1 (fun e => own_neC hO hkHNv (by decide) e.symm)).trans hkHNv)
    have HNl := Lib.hid ((hgrow.block _ (Array.getElem?_eq_some_iff.1 hkHNl).1 (fun e => own_neC hO hkHNl (by decide) e.symm)).trans hkHNl)
    have HNs := Lib.hid ((hgrow.block _ (Array.getElem?_eq_some_iff.1 hkHNs).1 (fun e => own_neC hO hkHNs (by decide) e.symm)).trans hkHNs)
    have HB := Lib.hid (HBA.out.grown hgrow HBA.out.size (fun j e => (World.ownsRow.lt hO j e).1))
    have HOW := Lib.hid hown'
    have yc0 := cellH HNc.out 0
    have yc1 := cellH HNc.out 1
    have ycf := freeH HNc.out
    simp only [List.getElem?_toArray, List.getElem?_cons_zero, List.getElem?_cons_succ] at yc0 yc1
    clear hown' hgrow hO hnw hkHG1 hkHNc hkHNa hkHNz hkHNw hkHNv hkHNl hkHNs zg10 zg11 zg12 zg13 zg14 zg15 zg16 zg17 zg20 zg21 zg22 zg23 zg24 zg25 zg26 zbc0 zbc1 zba0 zba1 zbz0 zbz1 zbw0 zbw1 zbv0 zbv1 zbl0 zbl1 zbl2 zbl3 zbl4 zbl5 zbs0 zbs1))
  have HOW2 := Lib.hid (own_setC HOW.out HNc.out (by decide) 1 (.slice va 2 vc))
  have hBN := Lib.hid (HB.out.setCell (p := ⟨bc, 1, none⟩) (by have := HSc.out; simpa using this) (.slice va 2 vc))
  have HG1 := Lib.hid ((heap_other wap bc 1 (.slice va 2 vc) _ (fun e => by have h := HNc.out; rw [← e, HG1.out] at h; simp at h)).trans HG1.out)
  have HNa := Lib.hid ((heap_other wap bc 1 (.slice va 2 vc) _ (fun e => by have h := HNc.out; rw [← e, HNa.out] at h; simp at h)).trans HNa.out)
  have HNz := Lib.hid ((heap_other wap bc 1 (.slice va 2 vc) _ (fun e => by have h := HNc.out; rw [← e, HNz.out] at h; simp at h)).trans HNz.out)
  have HNw := Lib.hid ((heap_other wap bc 1 (.slice va 2 vc) _ (fun e => by have h := HNc.out; rw [← e, HNw.out] at h; simp at h)).trans HNw.out)
  have HNv := Lib.hid ((heap_other wap bc 1 (.slice va 2 vc) _ (fun e => by have h := HNc.out; rw [← e, HNv.out] at h; simp at h)).trans HNv.out)
  have HNl := Lib.hid ((heap_other wap bc 1 (.slice va 2 vc) _ (fun e => by have h := HNc.out; rw [← e, HNl.out] at h; simp at h)).trans HNl.out)
  have HNs := Lib.hid ((heap_other wap bc 1 (.slice va 2 vc) _ (fun e => by have h := HNc.out; rw [← e, HNs.out] at h; simp at h)).trans HNs.out)
  have HNc2 := Lib.hid (heap_same HNc.out 1 (.slice va 2 vc))
  simp only [List.setIfInBounds_toArray, List.set_cons_zero, List.set_cons_succ] at HNc2
  have HB := hBN
  obtain ⟨wx, hwx⟩ : ∃ qq, wap.setCell ⟨bc, 1, none⟩ (.slice va 2 vc) = qq := ⟨_, rfl⟩
  rw [hwx] at HB HOW2 HNc2 HG1 HNa HNz HNw HNv HNl HNs ⊢
  clear hwx HNc HOW hBN yc0 yc1 ycf
  refine (Clashes_any _ _ exC exK2 wx (ex_ci HG1.out) (ex_ck2 HOW2.out) (by decide) (by decide)).mono ?_
  rintro e w9 ⟨hb, _, hz⟩
  obtain ⟨v, rfl, hp⟩ := hz ex_v9
  rw [show clK exC exK2 exC.length = [(7, 9)] from ex_v8] at hp
  have HP := Lib.hid hp
  obtain ⟨va2, vc2, rfl, _⟩ := hp.form
  have HB := Lib.hid (HB.out.trans (hb.mono HB.out.size))
  have HG1 := Lib.hid ((hb.block _ (Array.getElem?_eq_some_iff.1 HG1.out).1).trans HG1.out)
  have HNa := Lib.hid ((hb.block _ (Array.getElem?_eq_some_iff.1 HNa.out).1).trans HNa.out)
  have HNz := Lib.hid ((hb.block _ (Array.getElem?_eq_some_iff.1 HNz.out).1).trans HNz.out)
  have HNw := Lib.hid ((hb.block _ (Array.getElem?_eq_some_iff.1 HNw.out).1).trans HNw.out)
  have HNv := Lib.hid ((hb.block _ (Array.getElem?_eq_some_iff.1 HNv.out).1).trans HNv.out)
  have HNl := Lib.hid ((hb.block _ (Array.getElem?_eq_some_iff.1 HNl.out).1).trans HNl.out)
  have HNs := Lib.hid ((hb.block _ (Array.getElem?_eq_some_iff.1 HNs.out).1).trans HNs.out)
  clear hb hp hz HOW2 HNc2
  have zba0 := cellH HNa.out 0
  have zba1 := cellH HNa.out 1
  have zbz0 := cellH HNz.out 0
  have zbz1 := cellH HNz.out 1
  have zbw0 := cellH HNw.out 0
  have zbw1 := cellH HNw.out 1
  have zbv0 := cellH HNv.out 0
  have zbv1 := cellH HNv.out 1
  have zbl0 := cellH HNl.out 0
  have zbl1 := cellH HNl.out 1
  have zbl2 := cellH HNl.out 2
  have zbl3 := cellH HNl.out 3
  have zbl4 := cellH HNl.out 4
  have zbl5 := cellH HNl.out 5
  have zbs0 := cellH HNs.out 0
  have zbs1 := cellH HNs.out 1
  simp only [List.getElem?_toArray, List.getElem?_cons_zero, List.getElem?_cons_succ] at zba0 zba1 zbz0 zbz1 zbw0 zbw1 zbv0 zbv1 zbl0 zbl1 zbl2 zbl3 zbl4 zbl5 zbs0 zbs1
  go_wp2_with fail
  have hal : Below w9.heap.size w9 (w9.alloc (.cells #[.int .i64 7, .int .i64 9] 68)) := (Below.refl _ w9).alloc (Nat.le_refl _) _
  have HBL := Lib.hid (HB.out.trans (hal.mono HB.out.size))
  have hnew := heap_alloc_new w9 (.cells #[.int .i64 7, .int .i64 9] 68)
  have hp2 : P2Row (w9.alloc (.cells #[.int .i64 7, .int .i64 9] 68)) (.slice (some ⟨w9.heap.size, 0, none⟩) 1 1) [(7, 9)] := .inr ⟨w9.heap.size, 0, 1, rfl, by simp, fun i hi => by
    obtain rfl : i = 0 := by have : i < 1 := hi; omega
    exact ⟨cellH hnew 0, cellH hnew 1⟩⟩
  refine (samePairs_any _ _ [(7, 9)] [(7, 9)] _ (HP.out.keep hal) hp2 (by decide) (by decide)).mono ?_
  rintro e w10 ⟨rfl, hb⟩
  have HBF := Lib.hid (HBL.out.trans (hb.mono HBL.out.size))
  rw [decide_eq_true (rfl : ([(7, 9)] : List Pi2) = [(7, 9)])]
  clear hb hal hnew hp2
  go_wp2_with fail
  go_ret
  exact ⟨rfl, HBF.out⟩
end Go.Proofs.YtebdboacmeafaaaGreat
