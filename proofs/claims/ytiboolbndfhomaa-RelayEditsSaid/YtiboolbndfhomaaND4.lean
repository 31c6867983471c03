/- The walk of RelayChecks. -/
import Derived.Test.YtiboolbndfhomaaND3
set_option linter.unusedVariables false
set_option linter.unusedSimpArgs false
namespace Go.Proofs.Ytiboolbndfhomaa
open Go.RowKit

theorem two_cells (w : World) (A B : Array Value) (t u : TypeId) {W : World} (hb : Below ((w.alloc (.cells A t)).alloc (.cells B u)).heap.size ((w.alloc (.cells A t)).alloc (.cells B u)) W) :
    W.heap[w.heap.size]? = some (.cells A t (0, 0)) ∧ W.heap[w.heap.size + 1]? = some (.cells B u (0, 0)) ∧ w.heap.size + 1 < W.heap.size ∧ Below w.heap.size w W := by
  have s1 : (w.alloc (.cells A t)).heap.size = w.heap.size + 1 := by simp
  have s2 : ((w.alloc (.cells A t)).alloc (.cells B u)).heap.size = w.heap.size + 2 := by simp
  refine ⟨?_, ?_, ?_, ?_⟩
  · rw [hb.block _ (by omega), gNe _ _ _ (by omega)]; exact heap_alloc_new _ _
  · rw [hb.block _ (by omega), ← s1]; exact heap_alloc_new _ _
  · have := hb.size; omega
  · exact (((Below.refl _ w).alloc (Nat.le_refl _) _).alloc (by omega) _).trans (hb.mono (by omega))

set_option maxRecDepth 100000 in
set_option maxHeartbeats 4000000 in
theorem checks_law (st : Int) (o : Value) (ls : List Lk) (k : Lk) (o2 : Value) (t : Int) (W : World) (hv : NRow W o ls) (hst : -9223372036854775808 ≤ st ∧ st ≤ 9223372036854775807) (hs : SpRow W o2 k.op) (hl : k.op.length ≤ 9223372036854775807) (ht : -9223372036854775808 ≤ t ∧ t ≤ 9223372036854775807) :
    Calls Try.prog 3 #[ntV st o, lkV k o2, .int .i64 t] W fun e w' => e = .returned (.bool true) ∧ Below W.heap.size W w' := by
  obtain ⟨oa, oc, rfl, _⟩ := hv.row.form
  obtain ⟨sa, sc, rfl, _⟩ := hs.form
  have HV := Lib.hid hv
  have HC1 := Lib.hid (fun w' (h : Below W.heap.size W w') => few_any st (.slice oa ls.length oc) ls w' (hv.keep h))
  have HC2 := Lib.hid (fun w' (h : Below W.heap.size W w') => Leave_any k t (.slice sa k.op.length sc) w' (hs.keep h) hl)
  have HC3 := Lib.hid (fun w' (h : Below W.heap.size W w') => rLeave_any k t (.slice sa k.op.length sc) w' (hs.keep h) hl)
  have HC4 := Lib.hid (fun w' (h : Below W.heap.size W w') => Last_any k t (.slice sa k.op.length sc) w' (hs.keep h) hl)
  have HC5 := Lib.hid (fun w' (h : Below W.heap.size W w') => rLast_any k t (.slice sa k.op.length sc) w' (hs.keep h) hl ht)
  have HC6 := Lib.hid (fun w' (h : Below W.heap.size W w') => Check_any st (.slice oa ls.length oc) ls w' (hv.keep h).row (hv.keep h).op (hv.keep h).len)
  have HC7 := Lib.hid (fun w' (h : Below W.heap.size W w') => rCheck_any st (.slice oa ls.length oc) ls w' (hv.keep h) hst)
  obtain ⟨x, hx⟩ : ∃ x, leaveO k t = x := ⟨_, rfl⟩
  obtain ⟨y, hy⟩ : ∃ y, lastO k t = y := ⟨_, rfl⟩
  obtain ⟨q, hq⟩ : ∃ q, netE st ls = q := ⟨_, rfl⟩
  rw [hx] at HC2 HC3
  rw [hy] at HC4 HC5
  rw [hq] at HC6 HC7
  obtain ⟨xa, xb, hxv⟩ : ∃ (a : Int) (b : Bool), optV x = .tuple #[.int .i64 a, .bool b] := by cases x <;> exact ⟨_, _, rfl⟩
  obtain ⟨ya, yb, hyv⟩ : ∃ (a : Int) (b : Bool), optV y = .tuple #[.int .i64 a, .bool b] := by cases y <;> exact ⟨_, _, rfl⟩
  rw [hxv] at HC2 HC3
  rw [hyv] at HC4 HC5
  obtain ⟨fr, to, dl, op⟩ := k
  unfold ntV at HC1 HC6 HC7
  unfold lkV at HC2 HC3 HC4 HC5
  unfold ntV lkV
  simp only at hl HC2 HC3 HC4 HC5
  have HA := Lib.hid (fun W' => two_cells W #[.int .i64 st, .slice oa ls.length oc] #[.int .i64 fr, .int .i64 to, .int .i64 dl, .slice sa op.length sc] 24 27 (W := W'))
  have HB0 := Lib.hid (((Below.refl _ W).alloc (Nat.le_refl W.heap.size) (.cells #[.int .i64 st, .slice oa ls.length oc] 24)).alloc (by simp) (.cells #[.int .i64 fr, .int .i64 to, .int .i64 dl, .slice sa op.length sc] 27))
  obtain ⟨W2, hW2⟩ : ∃ W2, (W.alloc (.cells #[.int .i64 st, .slice oa ls.length oc] 24)).alloc (.cells #[.int .i64 fr, .int .i64 to, .int .i64 dl, .slice sa op.length sc] 27) = W2 := ⟨_, rfl⟩
  rw [hW2] at HA HB0
  have HW2 := Lib.hid hW2
  clear hv hs hx hy hq hxv hyv hW2
  cases hf : fewB ls
  · have HF := Lib.hid hf
    rw [hf] at HC1
    clear hf
    go_enter Try.func3, Try.ntmps3
    go_wp2_with fail
    rw [HW2.out]
    refine (HC1.out _ HB0.out).mono ?_
    rintro e w3 ⟨rfl, hb⟩
    have HB3 := Lib.hid (HB0.out.trans (hb.mono HB0.out.size))
    clear hb
    go_wp2_with fail
    refine (nets_any _).mono ?_
    rintro e w4 ⟨rfl, hb⟩
    have HB4 := Lib.hid (HB3.out.trans (hb.mono HB3.out.size))
    clear hb
    go_wp2_with fail
    go_ret
    exact ⟨rfl, HB4.out⟩
  rw [hf] at HC1
  clear hf
  by_cases h20 : 20 < op.length
  · have g20 : (20 : Int) < op.length := by omega
    clear h20
    go_enter Try.func3, Try.ntmps3
    go_wp2_with fail
    rw [HW2.out]
    refine (HC1.out _ HB0.out).mono ?_
    rintro e w3 ⟨rfl, hb⟩
    have HB3 := Lib.hid (HB0.out.trans (hb.mono HB0.out.size))
    obtain ⟨n0, n1, _, _⟩ := HA.out w3 (hb.mono (by omega))
    have l3 := cellH n1 3
    simp at l3
    clear hb n0 n1
    go_wp2_with fail
    refine (nets_any _).mono ?_
    rintro e w4 ⟨rfl, hb⟩
    have HB4 := Lib.hid (HB3.out.trans (hb.mono HB3.out.size))
    clear hb
    go_wp2_with fail
    go_ret
    exact ⟨rfl, HB4.out⟩
  have g20 : ¬ (20 : Int) < op.length := by omega
  have HKK : Hid (∀ W', Below W2.heap.size W2 W' → W'.cell? ⟨W.heap.size, 0, none⟩ = some (.int .i64 st) ∧ W'.cell? ⟨W.heap.size, 1, none⟩ = some (.slice oa ls.length oc) ∧ W'.cell? ⟨W.heap.size + 1, 0, none⟩ = some (.int .i64 fr) ∧ W'.cell? ⟨W.heap.size + 1, 1, none⟩ = some (.int .i64 to) ∧ W'.cell? ⟨W.heap.size + 1, 2, none⟩ = some (.int .i64 dl) ∧ W'.cell? ⟨W.heap.size + 1, 3, none⟩ = some (.slice sa op.length sc)) := Lib.hid (fun W' h => by
    obtain ⟨n0, n1, _, _⟩ := HA.out W' h
    exact ⟨cellH n0 0, cellH n0 1, cellH n1 0, cellH n1 1, cellH n1 2, cellH n1 3⟩)
  clear h20
  go_enter Try.func3, Try.ntmps3
  go_wp2_with fail
  rw [HW2.out]
  refine (HC1.out _ HB0.out).mono ?_
  rintro e w3 ⟨rfl, hb⟩
  have HD3 := Lib.hid hb
  have HB3 := Lib.hid (HB0.out.trans (hb.mono HB0.out.size))
  clear hb
  obtain ⟨n0, n1, l0, l1, l2, l3⟩ := HKK.out w3 HD3.out
  go_wp2_with fail
  refine (HC2.out _ HB3.out).mono ?_
  rintro e w4 ⟨rfl, hb⟩
  have HD4 := Lib.hid (HD3.out.trans (hb.mono HD3.out.size))
  have HB4 := Lib.hid (HB3.out.trans (hb.mono HB3.out.size))
  clear hb n0 n1 l0 l1 l2 l3
  obtain ⟨n0, n1, l0, l1, l2, l3⟩ := HKK.out w4 HD4.out
  go_wp2_with fail
  refine (HC3.out _ HB4.out).mono ?_
  rintro e w5 ⟨rfl, hb⟩
  have HD5 := Lib.hid (HD4.out.trans (hb.mono HD4.out.size))
  have HB5 := Lib.hid (HB4.out.trans (hb.mono HB4.out.size))
  clear hb n0 n1 l0 l1 l2 l3
  obtain ⟨n0, n1, l0, l1, l2, l3⟩ := HKK.out w5 HD5.out
  go_wp2_with fail
  refine (HC4.out _ HB5.out).mono ?_
  rintro e w6 ⟨rfl, hb⟩
  have HD6 := Lib.hid (HD5.out.trans (hb.mono HD5.out.size))
  have HB6 := Lib.hid (HB5.out.trans (hb.mono HB5.out.size))
  clear hb n0 n1 l0 l1 l2 l3
  obtain ⟨n0, n1, l0, l1, l2, l3⟩ := HKK.out w6 HD6.out
  go_wp2_with fail
  refine (HC5.out _ HB6.out).mono ?_
  rintro e w7 ⟨rfl, hb⟩
  have HD7 := Lib.hid (HD6.out.trans (hb.mono HD6.out.size))
  have HB7 := Lib.hid (HB6.out.trans (hb.mono HB6.out.size))
  clear hb n0 n1 l0 l1 l2 l3
  have K0 : Hid (∀ W', Below w7.heap.size w7 W' → W'.cell? ⟨W.heap.size, 0, none⟩ = some (.int .i64 st) ∧ W'.cell? ⟨W.heap.size, 1, none⟩ = some (.slice oa ls.length oc)) := Lib.hid (fun W' h => by
    obtain ⟨n0, n1, _⟩ := HKK.out W' (HD7.out.trans (h.mono HD7.out.size))
    exact ⟨n0, n1⟩)
  have CN : Hid (∀ w', Below w7.heap.size w7 w' → Calls Try.prog 11 #[] w' fun e w'' => e = .returned (.bool true) ∧ Below w7.heap.size w7 w'') := Lib.hid (fun w' h => (nets_any w').mono fun e w'' ⟨he, hh⟩ => ⟨he, h.trans (hh.mono h.size)⟩)
  have CC : Hid (∀ w', Below w7.heap.size w7 w' → Calls Try.prog 16 #[.agg #[.int .i64 st, .slice oa ls.length oc]] w' fun e w'' => e = .returned (.int .i64 q) ∧ Below w7.heap.size w7 w'') := Lib.hid (fun w' h => (HC6.out w' (HB7.out.trans (h.mono HB7.out.size))).mono fun e w'' ⟨he, hh⟩ => ⟨he, h.trans (hh.mono h.size)⟩)
  have CR : Hid (∀ w', Below w7.heap.size w7 w' → Calls Try.prog 17 #[.agg #[.int .i64 st, .slice oa ls.length oc]] w' fun e w'' => e = .returned (.int .i64 q) ∧ Below w7.heap.size w7 w'') := Lib.hid (fun w' h => (HC7.out w' (HB7.out.trans (h.mono HB7.out.size))).mono fun e w'' ⟨he, hh⟩ => ⟨he, h.trans (hh.mono h.size)⟩)
  go_wp2_with fail

  refine wp_region_turn 28 (fun _ w' => Below w7.heap.size w7 w') (by kernel_rfl) (by kernel_rfl) ((Below.refl _ w7).drew) ?_
  simp only [List.take_succ_cons, List.take_zero, List.drop_succ_cons, List.drop_zero]
  iterate 28
    (first
      | (apply turnC_step (by rfl); (intro w' hw'; go_simp; first | exact CN.out w' hw' | exact CC.out w' hw' | exact CR.out w' hw'))
      | (apply turnC_step (by rfl); (intro w' hw'; obtain ⟨q0, q1⟩ := K0.out w' hw'; go_simp; first | exact ⟨hw', rfl⟩ | exact rfl)))
    simp only [Act.put, List.setIfInBounds_toArray, List.set_cons_succ, List.set_cons_zero]

  intro listed w8 _ hw8
  have HB8 := Lib.hid (HB7.out.trans (hw8.mono HB7.out.size))
  clear hw8
  go_wp2_with fail
  go_ret
  exact ⟨rfl, HB8.out⟩
end Go.Proofs.Ytiboolbndfhomaa
