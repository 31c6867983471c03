/- Package circle: Rests. -/
import Derived.Test.YtpaihnjgpookjaaCC5
set_option linter.unusedVariables false
set_option linter.unusedSimpArgs false
namespace Go.Proofs.Ytpaihnjgpookjaa
open Go Go.RowKit

set_option maxRecDepth 100000 in
set_option maxHeartbeats 4000000 in
theorem rests1_any (z : Ci) (v : Value) (h : Th) (t : Int) (dp tp : Nat) (w : World) (hd : 0 ≤ z.dr ∧ z.dr ≤ 60) (ht : 0 ≤ t ∧ t ≤ 1048576) (hh : h.ok) (hdp : w.heap[dp]? = some (.cells #[.int .i64 z.id, .int .i64 z.x, .int .i64 z.y, .int .i64 z.f, .int .i64 z.t, .int .i64 z.lo, .int .i64 z.hi, .int .i64 z.dr, v] 112 (0, 0))) (htp : w.heap[tp]? = some (.cells #[.int .i64 t] 3 (0, 0))) :
    Calls Try.prog 65 #[h.val, .pointer (some ⟨dp, 0, none⟩), .pointer (some ⟨tp, 0, none⟩)] w fun e w' => e = .returned (.int .i64 (lowI z.dr h t)) ∧ Below w.heap.size w w' := by
  have HQ := Lib.hid (fun w' => dlow_any z v h t w' hd hh.1 ht hh.2.1)
  have HD := Lib.hid hdp
  have HT := Lib.hid htp
  obtain ⟨R, hR⟩ : ∃ R, lowI z.dr h t = R := ⟨_, rfl⟩
  rw [hR] at HQ ⊢
  clear hR hh hdp htp
  obtain ⟨zi, zx, zy, zf, zt, zl, zh, dr⟩ := z
  obtain ⟨g0, g1, g2, g3, g4, g5, g6, g7, g8, g9⟩ := h
  unfold dlV Th.val at HQ
  unfold Th.val
  simp only at HQ HD ⊢
  have HB : Hid (Below w.heap.size w (w.alloc (.cells #[.int .i64 g0, .int .i64 g1, .int .i64 g2, .int .i64 g3, .int .i64 g4, .int .i64 g5, .int .i64 g6, .int .i64 g7, .int .i64 g8, .bool g9] 125))) := Lib.hid ((Below.refl _ w).alloc (Nat.le_refl _) _)
  have HN : Hid ((w.alloc (.cells #[.int .i64 g0, .int .i64 g1, .int .i64 g2, .int .i64 g3, .int .i64 g4, .int .i64 g5, .int .i64 g6, .int .i64 g7, .int .i64 g8, .bool g9] 125)).heap[w.heap.size]? = some (.cells #[.int .i64 g0, .int .i64 g1, .int .i64 g2, .int .i64 g3, .int .i64 g4, .int .i64 g5, .int .i64 g6, .int .i64 g7, .int .i64 g8, .bool g9] 125 (0, 0))) := Lib.hid (heap_alloc_new _ _)
  have HD2 := (HB.out.block _ (Array.getElem?_eq_some_iff.1 HD.out).1).trans HD.out
  have HT2 := (HB.out.block _ (Array.getElem?_eq_some_iff.1 HT.out).1).trans HT.out
  have d0 := cellH HD2 0
  have d1 := cellH HD2 1
  have d2 := cellH HD2 2
  have d3 := cellH HD2 3
  have d4 := cellH HD2 4
  have d5 := cellH HD2 5
  have d6 := cellH HD2 6
  have d7 := cellH HD2 7
  have d8 := cellH HD2 8
  have b0 := cellH HN.out 0
  have b1 := cellH HN.out 1
  have b2 := cellH HN.out 2
  have b3 := cellH HN.out 3
  have b4 := cellH HN.out 4
  have b5 := cellH HN.out 5
  have b6 := cellH HN.out 6
  have b7 := cellH HN.out 7
  have b8 := cellH HN.out 8
  have b9 := cellH HN.out 9
  have t0 := cellH HT2 0
  simp only [List.getElem?_toArray, List.getElem?_cons_zero, List.getElem?_cons_succ] at t0 d0 d1 d2 d3 d4 d5 d6 d7 d8 b0 b1 b2 b3 b4 b5 b6 b7 b8 b9
  clear HD2 HT2
  go_enter Try.func65, Try.ntmps65
  go_wp2_with fail
  refine (HQ.out _).mono ?_
  rintro e w2 ⟨rfl, hb2⟩
  have HB2 := Lib.hid (HB.out.trans (hb2.mono HB.out.size))
  clear hb2
  go_wp2_with fail
  go_ret
  exact ⟨rfl, HB2.out⟩
set_option maxRecDepth 100000 in
set_option maxHeartbeats 4000000 in
theorem rests2_any (z : Ci) (v : Value) (h : Th) (t : Int) (dp tp : Nat) (w : World) (hd : 0 ≤ z.dr ∧ z.dr ≤ 60) (ht : 0 ≤ t ∧ t ≤ 1048576) (hh : h.ok) (hdp : w.heap[dp]? = some (.cells #[.int .i64 z.id, .int .i64 z.x, .int .i64 z.y, .int .i64 z.f, .int .i64 z.t, .int .i64 z.lo, .int .i64 z.hi, .int .i64 z.dr, v] 112 (0, 0))) (htp : w.heap[tp]? = some (.cells #[.int .i64 t] 3 (0, 0))) :
    Calls Try.prog 67 #[h.val, .pointer (some ⟨dp, 0, none⟩), .pointer (some ⟨tp, 0, none⟩)] w fun e w' => e = .returned (.int .i64 (highI z.dr h t)) ∧ Below w.heap.size w w' := by
  have HQ := Lib.hid (fun w' => dhigh_any z v h t w' hd hh.1 ht hh.2.2)
  have HD := Lib.hid hdp
  have HT := Lib.hid htp
  obtain ⟨R, hR⟩ : ∃ R, highI z.dr h t = R := ⟨_, rfl⟩
  rw [hR] at HQ ⊢
  clear hR hh hdp htp
  obtain ⟨zi, zx, zy, zf, zt, zl, zh, dr⟩ := z
  obtain ⟨g0, g1, g2, g3, g4, g5, g6, g7, g8, g9⟩ := h
  unfold dlV Th.val at HQ
  unfold Th.val
  simp only at HQ HD ⊢
  have HB : Hid (Below w.heap.size w (w.alloc (.cells #[.int .i64 g0, .int .i64 g1, .int .i64 g2, .int .i64 g3, .int .i64 g4, .int .i64 g5, .int .i64 g6, .int .i64 g7, .int .i64 g8, .bool g9] 125))) := Lib.hid ((Below.refl _ w).alloc (Nat.le_refl _) _)
  have HN : Hid ((w.alloc (.cells #[.int .i64 g0, .int .i64 g1, .int .i64 g2, .int .i64 g3, .int .i64 g4, .int .i64 g5, .int .i64 g6, .int .i64 g7, .int .i64 g8, .bool g9] 125)).heap[w.heap.size]? = some (.cells #[.int .i64 g0, .int .i64 g1, .int .i64 g2, .int .i64 g3, .int .i64 g4, .int .i64 g5, .int .i64 g6, .int .i64 g7, .int .i64 g8, .bool g9] 125 (0, 0))) := Lib.hid (heap_alloc_new _ _)
  have HD2 := (HB.out.block _ (Array.getElem?_eq_some_iff.1 HD.out).1).trans HD.out
  have HT2 := (HB.out.block _ (Array.getElem?_eq_some_iff.1 HT.out).1).trans HT.out
  have d0 := cellH HD2 0
  have d1 := cellH HD2 1
  have d2 := cellH HD2 2
  have d3 := cellH HD2 3
  have d4 := cellH HD2 4
  have d5 := cellH HD2 5
  have d6 := cellH HD2 6
  have d7 := cellH HD2 7
  have d8 := cellH HD2 8
  have b0 := cellH HN.out 0
  have b1 := cellH HN.out 1
  have b2 := cellH HN.out 2
  have b3 := cellH HN.out 3
  have b4 := cellH HN.out 4
  have b5 := cellH HN.out 5
  have b6 := cellH HN.out 6
  have b7 := cellH HN.out 7
  have b8 := cellH HN.out 8
  have b9 := cellH HN.out 9
  have t0 := cellH HT2 0
  simp only [List.getElem?_toArray, List.getElem?_cons_zero, List.getElem?_cons_succ] at t0 d0 d1 d2 d3 d4 d5 d6 d7 d8 b0 b1 b2 b3 b4 b5 b6 b7 b8 b9
  clear HD2 HT2
  go_enter Try.func67, Try.ntmps67
  go_wp2_with fail
  refine (HQ.out _).mono ?_
  rintro e w2 ⟨rfl, hb2⟩
  have HB2 := Lib.hid (HB.out.trans (hb2.mono HB.out.size))
  clear hb2
  go_wp2_with fail
  go_ret
  exact ⟨rfl, HB2.out⟩
end Go.Proofs.Ytpaihnjgpookjaa
