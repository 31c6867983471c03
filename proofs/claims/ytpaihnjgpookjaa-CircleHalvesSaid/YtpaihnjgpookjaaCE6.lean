/- Package firetowerlaw05: CircleHalves. -/
import Derived.Test.YtpaihnjgpookjaaCD9
import Derived.Test.YtpaihnjgpookjaaCE5
import Derived.Test.YtpaihnjgpookjaaCD2
import Derived.Laws.StructEq
set_option linter.unusedVariables false
set_option linter.unusedSimpArgs false
namespace Go.Proofs.Ytpaihnjgpookjaa
open Go Go.RowKit

theorem half_same (x y z : Int) (w : World) : (Op.equalIn 9999 38 (.agg #[.int .i64 x, .int .i64 y, .int .i64 z]) (.agg #[.int .i64 x, .int .i64 y, .int .i64 z])).run Try.prog w = .ok true w := by
  go_simp
theorem halves_same (a b c d e f : Int) (w : World) : (Op.equalIn 10000 39 (.agg #[.int .i64 a, .int .i64 b, .int .i64 c, .int .i64 d, .int .i64 e, .int .i64 f]) (.agg #[.int .i64 a, .int .i64 b, .int .i64 c, .int .i64 d, .int .i64 e, .int .i64 f])).run Try.prog w = .ok true w := by
  obtain ⟨i0, hi0⟩ : ∃ i, Try.prog.info? 38 = some i := Option.isSome_iff_exists.1 (by kernel_rfl)
  have hu : Try.prog.underlying 39 = some (.array 2 38) := by kernel_rfl
  have hc : Try.prog.cellsOf 38 = 3 := by kernel_rfl
  have p0 : (part 38 #[.int .i64 a, .int .i64 b, .int .i64 c, .int .i64 d, .int .i64 e, .int .i64 f] 0).run Try.prog w = .ok (.agg #[.int .i64 a, .int .i64 b, .int .i64 c]) w := by kernel_rfl
  have p1 : (part 38 #[.int .i64 a, .int .i64 b, .int .i64 c, .int .i64 d, .int .i64 e, .int .i64 f] 3).run Try.prog w = .ok (.agg #[.int .i64 d, .int .i64 e, .int .i64 f]) w := by kernel_rfl
  have h := run_equalIn_array (P := Try.prog) w 9999 #[.int .i64 a, .int .i64 b, .int .i64 c, .int .i64 d, .int .i64 e, .int .i64 f] #[.int .i64 a, .int .i64 b, .int .i64 c, .int .i64 d, .int .i64 e, .int .i64 f] hu hi0
  rw [show (10000 : Nat) = 9999 + 1 from rfl, h, hc, show List.range 2 = [0, 1] from rfl]
  simp [Op.eqItems, Sem.run_bind, Nat.zero_mul, Nat.one_mul, p0, p1, half_same, Result.andThen_ok, Sem.run_pure]
theorem hv_form (f t a b : Int) : ∃ l0 l1 l2 l3 l4 l5 : Int, hvV f t a b = .agg #[.int .i64 l0, .int .i64 l1, .int .i64 l2, .int .i64 l3, .int .i64 l4, .int .i64 l5] ∧
    (hvB f t a b = true → ((-450 ≤ l0 ∧ l0 ≤ 450) ∧ (-450 ≤ l1 ∧ l1 ≤ 450) ∧ (-450 ≤ l3 ∧ l3 ≤ 450) ∧ -450 ≤ l4 ∧ l4 ≤ 450) ∧ (0 ≤ a ∧ a ≤ 48) ∧ (0 ≤ b ∧ b ≤ 48) ∧ l0 * a + l1 * b = l2 ∧ l3 * a + l4 * b = l5 ∧ omB a b = true ∧ ∀ c d, brB a b c d = true → (decide (l0 * c + l1 * d ≤ l2) && decide (l3 * c + l4 * d ≤ l5)) = lsB f t a b c d) := by
  by_cases h : hvB f t a b = true
  · refine ⟨_, _, _, _, _, _, by rw [hvV, if_pos h], fun _ => ?_⟩
    have ho : omB a b = true := by unfold hvB at h; rw [Bool.and_eq_true] at h; exact h.2
    obtain ⟨o1, o2⟩ := om_iff.1 ho
    obtain ⟨f1, f2⟩ := vc_bd f
    obtain ⟨t1, t2⟩ := vc_bd t
    obtain ⟨e1, e2⟩ := hv_edge f t a b
    exact ⟨⟨f2, by omega, by omega, t1⟩, o1, o2, e1, e2, ho, fun c d hb => hv_lies h hb⟩
  · exact ⟨0, 0, 0, 0, 0, 0, by rw [hvV, if_neg h], fun h2 => absurd h2 h⟩
set_option maxRecDepth 100000 in
set_option maxHeartbeats 8000000 in
theorem halves_card (f t a b c d : Int) (w : World) : Calls Try.prog 4 #[.agg #[.int .i64 f, .int .i64 t], .agg #[.int .i64 a, .int .i64 b], .agg #[.int .i64 c, .int .i64 d]] w fun e w' => e = .returned (.bool true) ∧ Below w.heap.size w w' := by
  have H1 := Lib.hid (fun w' => Halves_any f t a b w')
  have H2 := Lib.hid (fun w' => pHalves_any f t a b w')
  have H3 := Lib.hid (fun w' => sanity_any w')
  have H4 := Lib.hid (fun w' => pOn_any c d w')
  have H5 := Lib.hid (fun w' => Lies_any f t a b c d w')
  have HBR : Hid (brB a b c d = (omB a b && omB c d && !(a == c && b == d))) := Lib.hid rfl
  have HOC := Lib.hid (@om_iff c d)
  obtain ⟨l0, l1, l2, l3, l4, l5, hV, hall⟩ := hv_form f t a b
  have HALL := Lib.hid hall
  clear hall
  have HEQ := Lib.hid (fun w' => halves_same l0 l1 l2 l3 l4 l5 w')
  obtain ⟨V, hVV⟩ : ∃ z, hvV f t a b = z := ⟨_, rfl⟩
  obtain ⟨B, hB⟩ : ∃ z, hvB f t a b = z := ⟨_, rfl⟩
  obtain ⟨oc, hoc⟩ : ∃ z, omB c d = z := ⟨_, rfl⟩
  obtain ⟨L, hL⟩ : ∃ z, lsB f t a b c d = z := ⟨_, rfl⟩
  rw [hVV] at hV H1 H2
  rw [hB] at H1 H2 HALL
  rw [hoc] at H4 HBR HOC
  rw [hL] at H5
  have HL := Lib.hid hL
  subst hV
  clear hVV hB hoc hL
  obtain ⟨x0, x1, x2, xlt, xb⟩ := cells3 w #[.int .i64 f, .int .i64 t] #[.int .i64 a, .int .i64 b] #[.int .i64 c, .int .i64 d] 23 25 25 (Below.refl _ _)
  have HNw : Hid ((((w.alloc (.cells #[.int .i64 f, .int .i64 t] 23)).alloc (.cells #[.int .i64 a, .int .i64 b] 25)).alloc (.cells #[.int .i64 c, .int .i64 d] 25)).heap[w.heap.size]? = some (.cells #[.int .i64 f, .int .i64 t] 23 (0, 0))) := Lib.hid x0
  have HNf : Hid ((((w.alloc (.cells #[.int .i64 f, .int .i64 t] 23)).alloc (.cells #[.int .i64 a, .int .i64 b] 25)).alloc (.cells #[.int .i64 c, .int .i64 d] 25)).heap[w.heap.size + 1]? = some (.cells #[.int .i64 a, .int .i64 b] 25 (0, 0))) := Lib.hid x1
  have HNp : Hid ((((w.alloc (.cells #[.int .i64 f, .int .i64 t] 23)).alloc (.cells #[.int .i64 a, .int .i64 b] 25)).alloc (.cells #[.int .i64 c, .int .i64 d] 25)).heap[w.heap.size + 1 + 1]? = some (.cells #[.int .i64 c, .int .i64 d] 25 (0, 0))) := Lib.hid x2
  have HB : Hid (Below w.heap.size w (((w.alloc (.cells #[.int .i64 f, .int .i64 t] 23)).alloc (.cells #[.int .i64 a, .int .i64 b] 25)).alloc (.cells #[.int .i64 c, .int .i64 d] 25))) := Lib.hid xb
  obtain ⟨Z, hZ⟩ : ∃ Z, (((w.alloc (.cells #[.int .i64 f, .int .i64 t] 23)).alloc (.cells #[.int .i64 a, .int .i64 b] 25)).alloc (.cells #[.int .i64 c, .int .i64 d] 25)) = Z := ⟨_, rfl⟩
  rw [hZ] at HB HNw HNf HNp
  have HZ := Lib.hid hZ
  clear hZ xlt xb x0 x1 x2
  go_enter Try.func4, Try.ntmps4
  go_wp2_with fail
  rw [HZ.out]
  refine (H1.out _).mono ?_
  rintro e w1 ⟨rfl, hb⟩
  replace HB := Lib.hid (HB.out.trans (hb.mono HB.out.size))
  replace HNw := Lib.hid ((hb.block _ (Array.getElem?_eq_some_iff.1 HNw.out).1).trans HNw.out)
  replace HNf := Lib.hid ((hb.block _ (Array.getElem?_eq_some_iff.1 HNf.out).1).trans HNf.out)
  replace HNp := Lib.hid ((hb.block _ (Array.getElem?_eq_some_iff.1 HNp.out).1).trans HNp.out)
  clear hb
  have hAlc : Below w1.heap.size w1 (w1.alloc (.cells #[.int .i64 l0, .int .i64 l1, .int .i64 l2, .int .i64 l3, .int .i64 l4, .int .i64 l5] 39)) := (Below.refl _ w1).alloc (Nat.le_refl _) _
  have HSlv : Hid (w.heap.size ≤ w1.heap.size) := Lib.hid HB.out.size
  have HNlv : Hid ((w1.alloc (.cells #[.int .i64 l0, .int .i64 l1, .int .i64 l2, .int .i64 l3, .int .i64 l4, .int .i64 l5] 39)).heap[w1.heap.size]? = some (.cells #[.int .i64 l0, .int .i64 l1, .int .i64 l2, .int .i64 l3, .int .i64 l4, .int .i64 l5] 39 (0, 0))) := Lib.hid (heap_alloc_new _ _)
  replace HB := Lib.hid (HB.out.trans (hAlc.mono HB.out.size))
  replace HNw := Lib.hid ((hAlc.block _ (Array.getElem?_eq_some_iff.1 HNw.out).1).trans HNw.out)
  replace HNf := Lib.hid ((hAlc.block _ (Array.getElem?_eq_some_iff.1 HNf.out).1).trans HNf.out)
  replace HNp := Lib.hid ((hAlc.block _ (Array.getElem?_eq_some_iff.1 HNp.out).1).trans HNp.out)
  obtain ⟨alv, halv⟩ : ∃ qq, w1.alloc (.cells #[.int .i64 l0, .int .i64 l1, .int .i64 l2, .int .i64 l3, .int .i64 l4, .int .i64 l5] 39) = qq := ⟨_, rfl⟩
  obtain ⟨bklv, hblv⟩ : ∃ qq, w1.heap.size = qq := ⟨_, rfl⟩
  rw [halv] at HB HNlv HNw HNf HNp
  rw [hblv] at HNlv HSlv
  clear hAlc
  have zw0 := cellH HNw.out 0
  have zw1 := cellH HNw.out 1
  have zf0 := cellH HNf.out 0
  have zf1 := cellH HNf.out 1
  simp only [List.getElem?_toArray, List.getElem?_cons_zero, List.getElem?_cons_succ] at zw0 zw1 zf0 zf1
  go_wp2_with fail
  try clear halv hblv
  refine (H2.out _).mono ?_
  rintro e w2 ⟨rfl, hb⟩
  clear zw0 zw1 zf0 zf1
  replace HB := Lib.hid (HB.out.trans (hb.mono HB.out.size))
  replace HNw := Lib.hid ((hb.block _ (Array.getElem?_eq_some_iff.1 HNw.out).1).trans HNw.out)
  replace HNf := Lib.hid ((hb.block _ (Array.getElem?_eq_some_iff.1 HNf.out).1).trans HNf.out)
  replace HNp := Lib.hid ((hb.block _ (Array.getElem?_eq_some_iff.1 HNp.out).1).trans HNp.out)
  replace HNlv := Lib.hid ((hb.block _ (Array.getElem?_eq_some_iff.1 HNlv.out).1).trans HNlv.out)
  clear hb
  have hAlc : Below w2.heap.size w2 (w2.alloc (.cells #[.int .i64 l0, .int .i64 l1, .int .i64 l2, .int .i64 l3, .int .i64 l4, .int .i64 l5] 39)) := (Below.refl _ w2).alloc (Nat.le_refl _) _
  have HSm : Hid (w.heap.size ≤ w2.heap.size) := Lib.hid HB.out.size
  have HNm : Hid ((w2.alloc (.cells #[.int .i64 l0, .int .i64 l1, .int .i64 l2, .int .i64 l3, .int .i64 l4, .int .i64 l5] 39)).heap[w2.heap.size]? = some (.cells #[.int .i64 l0, .int .i64 l1, .int .i64 l2, .int .i64 l3, .int .i64 l4, .int .i64 l5] 39 (0, 0))) := Lib.hid (heap_alloc_new _ _)
  replace HB := Lib.hid (HB.out.trans (hAlc.mono HB.out.size))
  replace HNw := Lib.hid ((hAlc.block _ (Array.getElem?_eq_some_iff.1 HNw.out).1).trans HNw.out)
  replace HNf := Lib.hid ((hAlc.block _ (Array.getElem?_eq_some_iff.1 HNf.out).1).trans HNf.out)
  replace HNp := Lib.hid ((hAlc.block _ (Array.getElem?_eq_some_iff.1 HNp.out).1).trans HNp.out)
  replace HNlv := Lib.hid ((hAlc.block _ (Array.getElem?_eq_some_iff.1 HNlv.out).1).trans HNlv.out)
  obtain ⟨am, ham⟩ : ∃ qq, w2.alloc (.cells #[.int .i64 l0, .int .i64 l1, .int .i64 l2, .int .i64 l3, .int .i64 l4, .int .i64 l5] 39) = qq := ⟨_, rfl⟩
  obtain ⟨bkm, hbm⟩ : ∃ qq, w2.heap.size = qq := ⟨_, rfl⟩
  rw [ham] at HB HNm HNw HNf HNp HNlv
  rw [hbm] at HNm HSm
  clear hAlc
  have hq := HEQ.out
  cases B
  · skip
    have zlv0 := cellH HNlv.out 0
    have zlv1 := cellH HNlv.out 1
    have zlv2 := cellH HNlv.out 2
    have zlv3 := cellH HNlv.out 3
    have zlv4 := cellH HNlv.out 4
    have zlv5 := cellH HNlv.out 5
    have zm0 := cellH HNm.out 0
    have zm1 := cellH HNm.out 1
    have zm2 := cellH HNm.out 2
    have zm3 := cellH HNm.out 3
    have zm4 := cellH HNm.out 4
    have zm5 := cellH HNm.out 5
    simp only [List.getElem?_toArray, List.getElem?_cons_zero, List.getElem?_cons_succ] at zlv0 zlv1 zlv2 zlv3 zlv4 zlv5 zm0 zm1 zm2 zm3 zm4 zm5
    go_wp2_with fail
    try clear ham hbm
    refine (H3.out _).mono ?_
    rintro e w3 ⟨rfl, hb⟩
    clear zlv0 zlv1 zlv2 zlv3 zlv4 zlv5 zm0 zm1 zm2 zm3 zm4 zm5
    replace HB := Lib.hid (HB.out.trans (hb.mono HB.out.size))
    replace HNw := Lib.hid ((hb.block _ (Array.getElem?_eq_some_iff.1 HNw.out).1).trans HNw.out)
    replace HNf := Lib.hid ((hb.block _ (Array.getElem?_eq_some_iff.1 HNf.out).1).trans HNf.out)
    replace HNp := Lib.hid ((hb.block _ (Array.getElem?_eq_some_iff.1 HNp.out).1).trans HNp.out)
    replace HNlv := Lib.hid ((hb.block _ (Array.getElem?_eq_some_iff.1 HNlv.out).1).trans HNlv.out)
    replace HNm := Lib.hid ((hb.block _ (Array.getElem?_eq_some_iff.1 HNm.out).1).trans HNm.out)
    clear hb
    go_wp2_with fail
    go_ret
    exact ⟨rfl, HB.out⟩
  obtain ⟨⟨b0, b1, b3, b4⟩, ha, hb, ed1, ed2, hom, hls⟩ := HALL.out (by trivial)
  have HLS := Lib.hid hls
  have HOM := Lib.hid hom
  have HBD := Lib.hid (And.intro b0 (And.intro b1 (And.intro b3 b4)))
  have HED := Lib.hid (And.intro ed1 ed2)
  have HAB := Lib.hid (And.intro ha hb)
  clear ha hb ed1 ed2 hom hls b0 b1 b3 b4
  have zlv0 := cellH HNlv.out 0
  have zlv1 := cellH HNlv.out 1
  have zlv2 := cellH HNlv.out 2
  have zlv3 := cellH HNlv.out 3
  have zlv4 := cellH HNlv.out 4
  have zlv5 := cellH HNlv.out 5
  have zm0 := cellH HNm.out 0
  have zm1 := cellH HNm.out 1
  have zm2 := cellH HNm.out 2
  have zm3 := cellH HNm.out 3
  have zm4 := cellH HNm.out 4
  have zm5 := cellH HNm.out 5
  simp only [List.getElem?_toArray, List.getElem?_cons_zero, List.getElem?_cons_succ] at zlv0 zlv1 zlv2 zlv3 zlv4 zlv5 zm0 zm1 zm2 zm3 zm4 zm5
  go_wp2_with fail
  clear zlv0 zlv1 zlv2 zlv3 zlv4 zlv5 zm0 zm1 zm2 zm3 zm4 zm5
  try clear ham hbm
  clear hq
  have HRM : Hid (∀ W', Below am.heap.size am W' → W'.cell? ⟨w.heap.size, 0, none⟩ = some (.int .i64 f) ∧ W'.cell? ⟨w.heap.size, 1, none⟩ = some (.int .i64 t) ∧ W'.cell? ⟨w.heap.size + 1, 0, none⟩ = some (.int .i64 a) ∧ W'.cell? ⟨w.heap.size + 1, 1, none⟩ = some (.int .i64 b) ∧ W'.cell? ⟨w.heap.size + 1 + 1, 0, none⟩ = some (.int .i64 c) ∧ W'.cell? ⟨w.heap.size + 1 + 1, 1, none⟩ = some (.int .i64 d) ∧ W'.cell? ⟨bklv, 0, none⟩ = some (.int .i64 l0) ∧ W'.cell? ⟨bklv, 1, none⟩ = some (.int .i64 l1) ∧ W'.cell? ⟨bklv, 2, none⟩ = some (.int .i64 l2) ∧ W'.cell? ⟨bklv, 3, none⟩ = some (.int .i64 l3) ∧ W'.cell? ⟨bklv, 4, none⟩ = some (.int .i64 l4) ∧ W'.cell? ⟨bklv, 5, none⟩ = some (.int .i64 l5) ∧ W'.cell? ⟨bkm, 0, none⟩ = some (.int .i64 l0) ∧ W'.cell? ⟨bkm, 1, none⟩ = some (.int .i64 l1) ∧ W'.cell? ⟨bkm, 2, none⟩ = some (.int .i64 l2) ∧ W'.cell? ⟨bkm, 3, none⟩ = some (.int .i64 l3) ∧ W'.cell? ⟨bkm, 4, none⟩ = some (.int .i64 l4) ∧ W'.cell? ⟨bkm, 5, none⟩ = some (.int .i64 l5)) := Lib.hid (fun W' h => ⟨cellH ((h.block _ (Array.getElem?_eq_some_iff.1 HNw.out).1).trans HNw.out) 0, cellH ((h.block _ (Array.getElem?_eq_some_iff.1 HNw.out).1).trans HNw.out) 1, cellH ((h.block _ (Array.getElem?_eq_some_iff.1 HNf.out).1).trans HNf.out) 0, cellH ((h.block _ (Array.getElem?_eq_some_iff.1 HNf.out).1).trans HNf.out) 1, cellH ((h.block _ (Array.getElem?_eq_some_iff.1 HNp.out).1).trans HNp.out) 0, cellH ((h.block _ (Array.getElem?_eq_some_iff.1 HNp.out).1).trans HNp.out) 1, cellH ((h.block _ (Array.getElem?_eq_some_iff.1 HNlv.out).1).trans HNlv.out) 0, cellH ((h.block _ (Array.getElem?_eq_some_iff.1 HNlv.out).1).trans HNlv.out) 1, cellH ((h.block _ (Array.getElem?_eq_some_iff.1 HNlv.out).1).trans HNlv.out) 2, cellH ((h.block _ (Array.getElem?_eq_some_iff.1 HNlv.out).1).trans HNlv.out) 3, cellH ((h.block _ (Array.getElem?_eq_some_iff.1 HNlv.out).1).trans HNlv.out) 4, cellH ((h.block _ (Array.getElem?_eq_some_iff.1 HNlv.out).1).trans HNlv.out) 5, cellH ((h.block _ (Array.getElem?_eq_some_iff.1 HNm.out).1).trans HNm.out) 0, cellH ((h.block _ (Array.getElem?_eq_some_iff.1 HNm.out).1).trans HNm.out) 1, cellH ((h.block _ (Array.getElem?_eq_some_iff.1 HNm.out).1).trans HNm.out) 2, cellH ((h.block _ (Array.getElem?_eq_some_iff.1 HNm.out).1).trans HNm.out) 3, cellH ((h.block _ (Array.getElem?_eq_some_iff.1 HNm.out).1).trans HNm.out) 4, cellH ((h.block _ (Array.getElem?_eq_some_iff.1 HNm.out).1).trans HNm.out) 5⟩)
  have HBM := Lib.hid HB.out
  go_loopw [11] (fun x wr => ∃ k : Nat, k ≤ 2 ∧ x = .int .i64 k ∧ Hid (Below am.heap.size am wr)) (fun x _ => 2 - (intOf x).toNat)
  case atStart => exact ⟨0, by omega, rfl, Lib.hid (Below.refl _ _)⟩
  case round =>
    obtain ⟨k, hk, rfl, hW⟩ := hrel
    obtain ⟨zw0, zw1, zf0, zf1, zp0, zp1, zlv0, zlv1, zlv2, zlv3, zlv4, zlv5, zm0, zm1, zm2, zm3, zm4, zm5⟩ := HRM.out wr hW.out
    have hk3 : k = 0 ∨ k = 1 ∨ k = 2 := by omega
    have hed := HED.out
    have hab := HAB.out
    have hbd := HBD.out
    have p1 := mul_cc hbd.1 hab.1
    have p2 := mul_cc hbd.2.1 hab.2
    have p3 := mul_cc hbd.2.2.1 hab.1
    have p4 := mul_cc hbd.2.2.2 hab.2
    have e1 : IntKind.i64.wrap (l0 * a) = l0 * a := IntWalk.i64_in _ (by omega)
    have e2 : IntKind.i64.wrap (l1 * b) = l1 * b := IntWalk.i64_in _ (by omega)
    have e3 : IntKind.i64.wrap (l3 * a) = l3 * a := IntWalk.i64_in _ (by omega)
    have e4 : IntKind.i64.wrap (l4 * b) = l4 * b := IntWalk.i64_in _ (by omega)
    have e5 : IntKind.i64.wrap (l0 * a + l1 * b) = l2 := by rw [hed.1]; exact IntWalk.i64_in _ (by omega)
    have e6 : IntKind.i64.wrap (l3 * a + l4 * b) = l5 := by rw [hed.2]; exact IntWalk.i64_in _ (by omega)
    clear hed hab hbd p1 p2 p3 p4
    rcases hk3 with rfl | rfl | rfl
    · go_wp2_with fail
      go_quiet (fail)
      go_wp2_with fail
      go_roundw
      case rel => exact ⟨1, by omega, by go_num, Lib.hid (by repeat (first | exact hW.out | exact hW.out.drew | refine below_drewN ?_ _))⟩
      case measure => simp [intOf]
    · go_wp2_with fail
      go_quiet (fail)
      go_wp2_with fail
      go_roundw
      case rel => exact ⟨2, by omega, by go_num, Lib.hid (by repeat (first | exact hW.out | exact hW.out.drew | refine below_drewN ?_ _))⟩
      case measure => simp [intOf]
    · clear e1 e2 e3 e4 e5 e6 zw0 zw1 zf0 zf1 zp0 zp1 zlv0 zlv1 zlv2 zlv3 zlv4 zlv5 zm0 zm1 zm2 zm3 zm4 zm5
      have hb := hW.out
      replace HB := Lib.hid (HB.out.trans (hb.mono HB.out.size))
      replace HNw := Lib.hid ((hb.block _ (Array.getElem?_eq_some_iff.1 HNw.out).1).trans HNw.out)
      replace HNf := Lib.hid ((hb.block _ (Array.getElem?_eq_some_iff.1 HNf.out).1).trans HNf.out)
      replace HNp := Lib.hid ((hb.block _ (Array.getElem?_eq_some_iff.1 HNp.out).1).trans HNp.out)
      replace HNlv := Lib.hid ((hb.block _ (Array.getElem?_eq_some_iff.1 HNlv.out).1).trans HNlv.out)
      replace HNm := Lib.hid ((hb.block _ (Array.getElem?_eq_some_iff.1 HNm.out).1).trans HNm.out)
      clear hb
      have zw0 := cellH HNw.out 0
      have zw1 := cellH HNw.out 1
      have zf0 := cellH HNf.out 0
      have zf1 := cellH HNf.out 1
      have zp0 := cellH HNp.out 0
      have zp1 := cellH HNp.out 1
      have zlv0 := cellH HNlv.out 0
      have zlv1 := cellH HNlv.out 1
      have zlv2 := cellH HNlv.out 2
      have zlv3 := cellH HNlv.out 3
      have zlv4 := cellH HNlv.out 4
      have zlv5 := cellH HNlv.out 5
      have zm0 := cellH HNm.out 0
      have zm1 := cellH HNm.out 1
      have zm2 := cellH HNm.out 2
      have zm3 := cellH HNm.out 3
      have zm4 := cellH HNm.out 4
      have zm5 := cellH HNm.out 5
      simp only [List.getElem?_toArray, List.getElem?_cons_zero, List.getElem?_cons_succ] at zw0 zw1 zf0 zf1 zp0 zp1 zlv0 zlv1 zlv2 zlv3 zlv4 zlv5 zm0 zm1 zm2 zm3 zm4 zm5
      go_wp2_with fail
      refine (H4.out _).mono ?_
      rintro e w4 ⟨rfl, hb⟩
      clear zw0 zw1 zf0 zf1 zp0 zp1 zlv0 zlv1 zlv2 zlv3 zlv4 zlv5 zm0 zm1 zm2 zm3 zm4 zm5
      replace HB := Lib.hid (HB.out.trans (hb.mono HB.out.size))
      replace HNw := Lib.hid ((hb.block _ (Array.getElem?_eq_some_iff.1 HNw.out).1).trans HNw.out)
      replace HNf := Lib.hid ((hb.block _ (Array.getElem?_eq_some_iff.1 HNf.out).1).trans HNf.out)
      replace HNp := Lib.hid ((hb.block _ (Array.getElem?_eq_some_iff.1 HNp.out).1).trans HNp.out)
      replace HNlv := Lib.hid ((hb.block _ (Array.getElem?_eq_some_iff.1 HNlv.out).1).trans HNlv.out)
      replace HNm := Lib.hid ((hb.block _ (Array.getElem?_eq_some_iff.1 HNm.out).1).trans HNm.out)
      clear hb
      cases oc
      · skip
        have zw0 := cellH HNw.out 0
        have zw1 := cellH HNw.out 1
        have zf0 := cellH HNf.out 0
        have zf1 := cellH HNf.out 1
        have zp0 := cellH HNp.out 0
        have zp1 := cellH HNp.out 1
        have zlv0 := cellH HNlv.out 0
        have zlv1 := cellH HNlv.out 1
        have zlv2 := cellH HNlv.out 2
        have zlv3 := cellH HNlv.out 3
        have zlv4 := cellH HNlv.out 4
        have zlv5 := cellH HNlv.out 5
        have zm0 := cellH HNm.out 0
        have zm1 := cellH HNm.out 1
        have zm2 := cellH HNm.out 2
        have zm3 := cellH HNm.out 3
        have zm4 := cellH HNm.out 4
        have zm5 := cellH HNm.out 5
        simp only [List.getElem?_toArray, List.getElem?_cons_zero, List.getElem?_cons_succ] at zw0 zw1 zf0 zf1 zp0 zp1 zlv0 zlv1 zlv2 zlv3 zlv4 zlv5 zm0 zm1 zm2 zm3 zm4 zm5
        go_wp2_with fail
        refine (H3.out _).mono ?_
        rintro e w5 ⟨rfl, hb⟩
        clear zw0 zw1 zf0 zf1 zp0 zp1 zlv0 zlv1 zlv2 zlv3 zlv4 zlv5 zm0 zm1 zm2 zm3 zm4 zm5
        replace HB := Lib.hid (HB.out.trans (hb.mono HB.out.size))
        replace HNw := Lib.hid ((hb.block _ (Array.getElem?_eq_some_iff.1 HNw.out).1).trans HNw.out)
        replace HNf := Lib.hid ((hb.block _ (Array.getElem?_eq_some_iff.1 HNf.out).1).trans HNf.out)
        replace HNp := Lib.hid ((hb.block _ (Array.getElem?_eq_some_iff.1 HNp.out).1).trans HNp.out)
        replace HNlv := Lib.hid ((hb.block _ (Array.getElem?_eq_some_iff.1 HNlv.out).1).trans HNlv.out)
        replace HNm := Lib.hid ((hb.block _ (Array.getElem?_eq_some_iff.1 HNm.out).1).trans HNm.out)
        clear hb
        go_wp2_with fail
        go_ret
        exact ⟨rfl, HB.out⟩
      cases g1 : (c == a)
      · skip
        have hbr : brB a b c d = true := by
          rw [HBR.out, HOM.out, show (a == c) = false by rw [BEq.comm]; exact g1]
          simp
        have HLL := Lib.hid ((HLS.out c d hbr).trans HL.out)
        obtain ⟨oc1, oc2⟩ := HOC.out.1 (by trivial)
        have hbd := HBD.out
        have hab := HAB.out
        have hed := HED.out
        have p1 := mul_cc hbd.1 oc1
        have p2 := mul_cc hbd.2.1 oc2
        have p3 := mul_cc hbd.2.2.1 oc1
        have p4 := mul_cc hbd.2.2.2 oc2
        have e1 : IntKind.i64.wrap (l0 * c) = l0 * c := IntWalk.i64_in _ (by omega)
        have e2 : IntKind.i64.wrap (l1 * d) = l1 * d := IntWalk.i64_in _ (by omega)
        have e3 : IntKind.i64.wrap (l3 * c) = l3 * c := IntWalk.i64_in _ (by omega)
        have e4 : IntKind.i64.wrap (l4 * d) = l4 * d := IntWalk.i64_in _ (by omega)
        have e5 : IntKind.i64.wrap (l0 * c + l1 * d) = l0 * c + l1 * d := IntWalk.i64_in _ (by omega)
        have e6 : IntKind.i64.wrap (l3 * c + l4 * d) = l3 * c + l4 * d := IntWalk.i64_in _ (by omega)
        clear hbd hab hed p1 p2 p3 p4 oc1 oc2 hbr
        cases x1 : decide (l0 * c + l1 * d ≤ l2)
        · skip
          have hl : L = false := by have h := HLL.out; rw [x1] at h; exact h.symm
          subst hl
          have zf0 := cellH HNf.out 0
          have zf1 := cellH HNf.out 1
          have zp0 := cellH HNp.out 0
          have zp1 := cellH HNp.out 1
          have zlv0 := cellH HNlv.out 0
          have zlv1 := cellH HNlv.out 1
          have zlv2 := cellH HNlv.out 2
          have zlv3 := cellH HNlv.out 3
          have zlv4 := cellH HNlv.out 4
          have zlv5 := cellH HNlv.out 5
          simp only [List.getElem?_toArray, List.getElem?_cons_zero, List.getElem?_cons_succ] at zf0 zf1 zp0 zp1 zlv0 zlv1 zlv2 zlv3 zlv4 zlv5
          go_wp2_with fail
          refine (H3.out _).mono ?_
          rintro e w6 ⟨rfl, hb⟩
          clear zf0 zf1 zp0 zp1 zlv0 zlv1 zlv2 zlv3 zlv4 zlv5
          replace HB := Lib.hid (HB.out.trans (hb.mono HB.out.size))
          replace HNw := Lib.hid ((hb.block _ (Array.getElem?_eq_some_iff.1 HNw.out).1).trans HNw.out)
          replace HNf := Lib.hid ((hb.block _ (Array.getElem?_eq_some_iff.1 HNf.out).1).trans HNf.out)
          replace HNp := Lib.hid ((hb.block _ (Array.getElem?_eq_some_iff.1 HNp.out).1).trans HNp.out)
          replace HNlv := Lib.hid ((hb.block _ (Array.getElem?_eq_some_iff.1 HNlv.out).1).trans HNlv.out)
          replace HNm := Lib.hid ((hb.block _ (Array.getElem?_eq_some_iff.1 HNm.out).1).trans HNm.out)
          clear hb
          clear e1 e2 e3 e4 e5 e6
          have zw0 := cellH HNw.out 0
          have zw1 := cellH HNw.out 1
          have zf0 := cellH HNf.out 0
          have zf1 := cellH HNf.out 1
          have zp0 := cellH HNp.out 0
          have zp1 := cellH HNp.out 1
          have zlv0 := cellH HNlv.out 0
          have zlv1 := cellH HNlv.out 1
          have zlv2 := cellH HNlv.out 2
          have zlv3 := cellH HNlv.out 3
          have zlv4 := cellH HNlv.out 4
          have zlv5 := cellH HNlv.out 5
          have zm0 := cellH HNm.out 0
          have zm1 := cellH HNm.out 1
          have zm2 := cellH HNm.out 2
          have zm3 := cellH HNm.out 3
          have zm4 := cellH HNm.out 4
          have zm5 := cellH HNm.out 5
          simp only [List.getElem?_toArray, List.getElem?_cons_zero, List.getElem?_cons_succ] at zw0 zw1 zf0 zf1 zp0 zp1 zlv0 zlv1 zlv2 zlv3 zlv4 zlv5 zm0 zm1 zm2 zm3 zm4 zm5
          go_wp2_with fail
          refine (H5.out _).mono ?_
          rintro e w7 ⟨rfl, hb⟩
          clear zw0 zw1 zf0 zf1 zp0 zp1 zlv0 zlv1 zlv2 zlv3 zlv4 zlv5 zm0 zm1 zm2 zm3 zm4 zm5
          replace HB := Lib.hid (HB.out.trans (hb.mono HB.out.size))
          replace HNw := Lib.hid ((hb.block _ (Array.getElem?_eq_some_iff.1 HNw.out).1).trans HNw.out)
          replace HNf := Lib.hid ((hb.block _ (Array.getElem?_eq_some_iff.1 HNf.out).1).trans HNf.out)
          replace HNp := Lib.hid ((hb.block _ (Array.getElem?_eq_some_iff.1 HNp.out).1).trans HNp.out)
          replace HNlv := Lib.hid ((hb.block _ (Array.getElem?_eq_some_iff.1 HNlv.out).1).trans HNlv.out)
          replace HNm := Lib.hid ((hb.block _ (Array.getElem?_eq_some_iff.1 HNm.out).1).trans HNm.out)
          clear hb
          go_wp2_with fail
          go_ret
          exact ⟨rfl, HB.out⟩
        · cases x2 : decide (l3 * c + l4 * d ≤ l5)
          · skip
            have hl : L = false := by have h := HLL.out; rw [x1, x2] at h; exact h.symm
            subst hl
            have zf0 := cellH HNf.out 0
            have zf1 := cellH HNf.out 1
            have zp0 := cellH HNp.out 0
            have zp1 := cellH HNp.out 1
            have zlv0 := cellH HNlv.out 0
            have zlv1 := cellH HNlv.out 1
            have zlv2 := cellH HNlv.out 2
            have zlv3 := cellH HNlv.out 3
            have zlv4 := cellH HNlv.out 4
            have zlv5 := cellH HNlv.out 5
            simp only [List.getElem?_toArray, List.getElem?_cons_zero, List.getElem?_cons_succ] at zf0 zf1 zp0 zp1 zlv0 zlv1 zlv2 zlv3 zlv4 zlv5
            go_wp2_with fail
            refine (H3.out _).mono ?_
            rintro e w8 ⟨rfl, hb⟩
            clear zf0 zf1 zp0 zp1 zlv0 zlv1 zlv2 zlv3 zlv4 zlv5
            replace HB := Lib.hid (HB.out.trans (hb.mono HB.out.size))
            replace HNw := Lib.hid ((hb.block _ (Array.getElem?_eq_some_iff.1 HNw.out).1).trans HNw.out)
            replace HNf := Lib.hid ((hb.block _ (Array.getElem?_eq_some_iff.1 HNf.out).1).trans HNf.out)
            replace HNp := Lib.hid ((hb.block _ (Array.getElem?_eq_some_iff.1 HNp.out).1).trans HNp.out)
            replace HNlv := Lib.hid ((hb.block _ (Array.getElem?_eq_some_iff.1 HNlv.out).1).trans HNlv.out)
            replace HNm := Lib.hid ((hb.block _ (Array.getElem?_eq_some_iff.1 HNm.out).1).trans HNm.out)
            clear hb
            clear e1 e2 e3 e4 e5 e6
            have zw0 := cellH HNw.out 0
            have zw1 := cellH HNw.out 1
            have zf0 := cellH HNf.out 0
            have zf1 := cellH HNf.out 1
            have zp0 := cellH HNp.out 0
            have zp1 := cellH HNp.out 1
            have zlv0 := cellH HNlv.out 0
            have zlv1 := cellH HNlv.out 1
            have zlv2 := cellH HNlv.out 2
            have zlv3 := cellH HNlv.out 3
            have zlv4 := cellH HNlv.out 4
            have zlv5 := cellH HNlv.out 5
            have zm0 := cellH HNm.out 0
            have zm1 := cellH HNm.out 1
            have zm2 := cellH HNm.out 2
            have zm3 := cellH HNm.out 3
            have zm4 := cellH HNm.out 4
            have zm5 := cellH HNm.out 5
            simp only [List.getElem?_toArray, List.getElem?_cons_zero, List.getElem?_cons_succ] at zw0 zw1 zf0 zf1 zp0 zp1 zlv0 zlv1 zlv2 zlv3 zlv4 zlv5 zm0 zm1 zm2 zm3 zm4 zm5
            go_wp2_with fail
            refine (H5.out _).mono ?_
            rintro e w9 ⟨rfl, hb⟩
            clear zw0 zw1 zf0 zf1 zp0 zp1 zlv0 zlv1 zlv2 zlv3 zlv4 zlv5 zm0 zm1 zm2 zm3 zm4 zm5
            replace HB := Lib.hid (HB.out.trans (hb.mono HB.out.size))
            replace HNw := Lib.hid ((hb.block _ (Array.getElem?_eq_some_iff.1 HNw.out).1).trans HNw.out)
            replace HNf := Lib.hid ((hb.block _ (Array.getElem?_eq_some_iff.1 HNf.out).1).trans HNf.out)
            replace HNp := Lib.hid ((hb.block _ (Array.getElem?_eq_some_iff.1 HNp.out).1).trans HNp.out)
            replace HNlv := Lib.hid ((hb.block _ (Array.getElem?_eq_some_iff.1 HNlv.out).1).trans HNlv.out)
            replace HNm := Lib.hid ((hb.block _ (Array.getElem?_eq_some_iff.1 HNm.out).1).trans HNm.out)
            clear hb
            go_wp2_with fail
            go_ret
            exact ⟨rfl, HB.out⟩
          · skip
            have hl : L = true := by have h := HLL.out; rw [x1, x2] at h; exact h.symm
            subst hl
            have zf0 := cellH HNf.out 0
            have zf1 := cellH HNf.out 1
            have zp0 := cellH HNp.out 0
            have zp1 := cellH HNp.out 1
            have zlv0 := cellH HNlv.out 0
            have zlv1 := cellH HNlv.out 1
            have zlv2 := cellH HNlv.out 2
            have zlv3 := cellH HNlv.out 3
            have zlv4 := cellH HNlv.out 4
            have zlv5 := cellH HNlv.out 5
            simp only [List.getElem?_toArray, List.getElem?_cons_zero, List.getElem?_cons_succ] at zf0 zf1 zp0 zp1 zlv0 zlv1 zlv2 zlv3 zlv4 zlv5
            go_wp2_with fail
            refine (H3.out _).mono ?_
            rintro e w10 ⟨rfl, hb⟩
            clear zf0 zf1 zp0 zp1 zlv0 zlv1 zlv2 zlv3 zlv4 zlv5
            replace HB := Lib.hid (HB.out.trans (hb.mono HB.out.size))
            replace HNw := Lib.hid ((hb.block _ (Array.getElem?_eq_some_iff.1 HNw.out).1).trans HNw.out)
            replace HNf := Lib.hid ((hb.block _ (Array.getElem?_eq_some_iff.1 HNf.out).1).trans HNf.out)
            replace HNp := Lib.hid ((hb.block _ (Array.getElem?_eq_some_iff.1 HNp.out).1).trans HNp.out)
            replace HNlv := Lib.hid ((hb.block _ (Array.getElem?_eq_some_iff.1 HNlv.out).1).trans HNlv.out)
            replace HNm := Lib.hid ((hb.block _ (Array.getElem?_eq_some_iff.1 HNm.out).1).trans HNm.out)
            clear hb
            clear e1 e2 e3 e4 e5 e6
            have zw0 := cellH HNw.out 0
            have zw1 := cellH HNw.out 1
            have zf0 := cellH HNf.out 0
            have zf1 := cellH HNf.out 1
            have zp0 := cellH HNp.out 0
            have zp1 := cellH HNp.out 1
            have zlv0 := cellH HNlv.out 0
            have zlv1 := cellH HNlv.out 1
            have zlv2 := cellH HNlv.out 2
            have zlv3 := cellH HNlv.out 3
            have zlv4 := cellH HNlv.out 4
            have zlv5 := cellH HNlv.out 5
            have zm0 := cellH HNm.out 0
            have zm1 := cellH HNm.out 1
            have zm2 := cellH HNm.out 2
            have zm3 := cellH HNm.out 3
            have zm4 := cellH HNm.out 4
            have zm5 := cellH HNm.out 5
            simp only [List.getElem?_toArray, List.getElem?_cons_zero, List.getElem?_cons_succ] at zw0 zw1 zf0 zf1 zp0 zp1 zlv0 zlv1 zlv2 zlv3 zlv4 zlv5 zm0 zm1 zm2 zm3 zm4 zm5
            go_wp2_with fail
            refine (H5.out _).mono ?_
            rintro e w11 ⟨rfl, hb⟩
            clear zw0 zw1 zf0 zf1 zp0 zp1 zlv0 zlv1 zlv2 zlv3 zlv4 zlv5 zm0 zm1 zm2 zm3 zm4 zm5
            replace HB := Lib.hid (HB.out.trans (hb.mono HB.out.size))
            replace HNw := Lib.hid ((hb.block _ (Array.getElem?_eq_some_iff.1 HNw.out).1).trans HNw.out)
            replace HNf := Lib.hid ((hb.block _ (Array.getElem?_eq_some_iff.1 HNf.out).1).trans HNf.out)
            replace HNp := Lib.hid ((hb.block _ (Array.getElem?_eq_some_iff.1 HNp.out).1).trans HNp.out)
            replace HNlv := Lib.hid ((hb.block _ (Array.getElem?_eq_some_iff.1 HNlv.out).1).trans HNlv.out)
            replace HNm := Lib.hid ((hb.block _ (Array.getElem?_eq_some_iff.1 HNm.out).1).trans HNm.out)
            clear hb
            go_wp2_with fail
            go_ret
            exact ⟨rfl, HB.out⟩
      · cases g2 : (d == b)
        · skip
          have hbr : brB a b c d = true := by
            rw [HBR.out, HOM.out, show (b == d) = false by rw [BEq.comm]; exact g2]
            simp
          have HLL := Lib.hid ((HLS.out c d hbr).trans HL.out)
          obtain ⟨oc1, oc2⟩ := HOC.out.1 (by trivial)
          have hbd := HBD.out
          have hab := HAB.out
          have hed := HED.out
          have p1 := mul_cc hbd.1 oc1
          have p2 := mul_cc hbd.2.1 oc2
          have p3 := mul_cc hbd.2.2.1 oc1
          have p4 := mul_cc hbd.2.2.2 oc2
          have e1 : IntKind.i64.wrap (l0 * c) = l0 * c := IntWalk.i64_in _ (by omega)
          have e2 : IntKind.i64.wrap (l1 * d) = l1 * d := IntWalk.i64_in _ (by omega)
          have e3 : IntKind.i64.wrap (l3 * c) = l3 * c := IntWalk.i64_in _ (by omega)
          have e4 : IntKind.i64.wrap (l4 * d) = l4 * d := IntWalk.i64_in _ (by omega)
          have e5 : IntKind.i64.wrap (l0 * c + l1 * d) = l0 * c + l1 * d := IntWalk.i64_in _ (by omega)
          have e6 : IntKind.i64.wrap (l3 * c + l4 * d) = l3 * c + l4 * d := IntWalk.i64_in _ (by omega)
          clear hbd hab hed p1 p2 p3 p4 oc1 oc2 hbr
          cases x1 : decide (l0 * c + l1 * d ≤ l2)
          · skip
            have hl : L = false := by have h := HLL.out; rw [x1] at h; exact h.symm
            subst hl
            have zf0 := cellH HNf.out 0
            have zf1 := cellH HNf.out 1
            have zp0 := cellH HNp.out 0
            have zp1 := cellH HNp.out 1
            have zlv0 := cellH HNlv.out 0
            have zlv1 := cellH HNlv.out 1
            have zlv2 := cellH HNlv.out 2
            have zlv3 := cellH HNlv.out 3
            have zlv4 := cellH HNlv.out 4
            have zlv5 := cellH HNlv.out 5
            simp only [List.getElem?_toArray, List.getElem?_cons_zero, List.getElem?_cons_succ] at zf0 zf1 zp0 zp1 zlv0 zlv1 zlv2 zlv3 zlv4 zlv5
            go_wp2_with fail
            refine (H3.out _).mono ?_
            rintro e w12 ⟨rfl, hb⟩
            clear zf0 zf1 zp0 zp1 zlv0 zlv1 zlv2 zlv3 zlv4 zlv5
            replace HB := Lib.hid (HB.out.trans (hb.mono HB.out.size))
            replace HNw := Lib.hid ((hb.block _ (Array.getElem?_eq_some_iff.1 HNw.out).1).trans HNw.out)
            replace HNf := Lib.hid ((hb.block _ (Array.getElem?_eq_some_iff.1 HNf.out).1).trans HNf.out)
            replace HNp := Lib.hid ((hb.block _ (Array.getElem?_eq_some_iff.1 HNp.out).1).trans HNp.out)
            replace HNlv := Lib.hid ((hb.block _ (Array.getElem?_eq_some_iff.1 HNlv.out).1).trans HNlv.out)
            replace HNm := Lib.hid ((hb.block _ (Array.getElem?_eq_some_iff.1 HNm.out).1).trans HNm.out)
            clear hb
            clear e1 e2 e3 e4 e5 e6
            have zw0 := cellH HNw.out 0
            have zw1 := cellH HNw.out 1
            have zf0 := cellH HNf.out 0
            have zf1 := cellH HNf.out 1
            have zp0 := cellH HNp.out 0
            have zp1 := cellH HNp.out 1
            have zlv0 := cellH HNlv.out 0
            have zlv1 := cellH HNlv.out 1
            have zlv2 := cellH HNlv.out 2
            have zlv3 := cellH HNlv.out 3
            have zlv4 := cellH HNlv.out 4
            have zlv5 := cellH HNlv.out 5
            have zm0 := cellH HNm.out 0
            have zm1 := cellH HNm.out 1
            have zm2 := cellH HNm.out 2
            have zm3 := cellH HNm.out 3
            have zm4 := cellH HNm.out 4
            have zm5 := cellH HNm.out 5
            simp only [List.getElem?_toArray, List.getElem?_cons_zero, List.getElem?_cons_succ] at zw0 zw1 zf0 zf1 zp0 zp1 zlv0 zlv1 zlv2 zlv3 zlv4 zlv5 zm0 zm1 zm2 zm3 zm4 zm5
            go_wp2_with fail
            refine (H5.out _).mono ?_
            rintro e w13 ⟨rfl, hb⟩
            clear zw0 zw1 zf0 zf1 zp0 zp1 zlv0 zlv1 zlv2 zlv3 zlv4 zlv5 zm0 zm1 zm2 zm3 zm4 zm5
            replace HB := Lib.hid (HB.out.trans (hb.mono HB.out.size))
            replace HNw := Lib.hid ((hb.block _ (Array.getElem?_eq_some_iff.1 HNw.out).1).trans HNw.out)
            replace HNf := Lib.hid ((hb.block _ (Array.getElem?_eq_some_iff.1 HNf.out).1).trans HNf.out)
            replace HNp := Lib.hid ((hb.block _ (Array.getElem?_eq_some_iff.1 HNp.out).1).trans HNp.out)
            replace HNlv := Lib.hid ((hb.block _ (Array.getElem?_eq_some_iff.1 HNlv.out).1).trans HNlv.out)
            replace HNm := Lib.hid ((hb.block _ (Array.getElem?_eq_some_iff.1 HNm.out).1).trans HNm.out)
            clear hb
            go_wp2_with fail
            go_ret
            exact ⟨rfl, HB.out⟩
          · cases x2 : decide (l3 * c + l4 * d ≤ l5)
            · skip
              have hl : L = false := by have h := HLL.out; rw [x1, x2] at h; exact h.symm
              subst hl
              have zf0 := cellH HNf.out 0
              have zf1 := cellH HNf.out 1
              have zp0 := cellH HNp.out 0
              have zp1 := cellH HNp.out 1
              have zlv0 := cellH HNlv.out 0
              have zlv1 := cellH HNlv.out 1
              have zlv2 := cellH HNlv.out 2
              have zlv3 := cellH HNlv.out 3
              have zlv4 := cellH HNlv.out 4
              have zlv5 := cellH HNlv.out 5
              simp only [List.getElem?_toArray, List.getElem?_cons_zero, List.getElem?_cons_succ] at zf0 zf1 zp0 zp1 zlv0 zlv1 zlv2 zlv3 zlv4 zlv5
              go_wp2_with fail
              refine (H3.out _).mono ?_
              rintro e w14 ⟨rfl, hb⟩
              clear zf0 zf1 zp0 zp1 zlv0 zlv1 zlv2 zlv3 zlv4 zlv5
              replace HB := Lib.hid (HB.out.trans (hb.mono HB.out.size))
              replace HNw := Lib.hid ((hb.block _ (Array.getElem?_eq_some_iff.1 HNw.out).1).trans HNw.out)
              replace HNf := Lib.hid ((hb.block _ (Array.getElem?_eq_some_iff.1 HNf.out).1).trans HNf.out)
              replace HNp := Lib.hid ((hb.block _ (Array.getElem?_eq_some_iff.1 HNp.out).1).trans HNp.out)
              replace HNlv := Lib.hid ((hb.block _ (Array.getElem?_eq_some_iff.1 HNlv.out).1).trans HNlv.out)
              replace HNm := Lib.hid ((hb.block _ (Array.getElem?_eq_some_iff.1 HNm.out).1).trans HNm.out)
              clear hb
              clear e1 e2 e3 e4 e5 e6
              have zw0 := cellH HNw.out 0
              have zw1 := cellH HNw.out 1
              have zf0 := cellH HNf.out 0
              have zf1 := cellH HNf.out 1
              have zp0 := cellH HNp.out 0
              have zp1 := cellH HNp.out 1
              have zlv0 := cellH HNlv.out 0
              have zlv1 := cellH HNlv.out 1
              have zlv2 := cellH HNlv.out 2
              have zlv3 := cellH HNlv.out 3
              have zlv4 := cellH HNlv.out 4
              have zlv5 := cellH HNlv.out 5
              have zm0 := cellH HNm.out 0
              have zm1 := cellH HNm.out 1
              have zm2 := cellH HNm.out 2
              have zm3 := cellH HNm.out 3
              have zm4 := cellH HNm.out 4
              have zm5 := cellH HNm.out 5
              simp only [List.getElem?_toArray, List.getElem?_cons_zero, List.getElem?_cons_succ] at zw0 zw1 zf0 zf1 zp0 zp1 zlv0 zlv1 zlv2 zlv3 zlv4 zlv5 zm0 zm1 zm2 zm3 zm4 zm5
              go_wp2_with fail
              refine (H5.out _).mono ?_
              rintro e w15 ⟨rfl, hb⟩
              clear zw0 zw1 zf0 zf1 zp0 zp1 zlv0 zlv1 zlv2 zlv3 zlv4 zlv5 zm0 zm1 zm2 zm3 zm4 zm5
              replace HB := Lib.hid (HB.out.trans (hb.mono HB.out.size))
              replace HNw := Lib.hid ((hb.block _ (Array.getElem?_eq_some_iff.1 HNw.out).1).trans HNw.out)
              replace HNf := Lib.hid ((hb.block _ (Array.getElem?_eq_some_iff.1 HNf.out).1).trans HNf.out)
              replace HNp := Lib.hid ((hb.block _ (Array.getElem?_eq_some_iff.1 HNp.out).1).trans HNp.out)
              replace HNlv := Lib.hid ((hb.block _ (Array.getElem?_eq_some_iff.1 HNlv.out).1).trans HNlv.out)
              replace HNm := Lib.hid ((hb.block _ (Array.getElem?_eq_some_iff.1 HNm.out).1).trans HNm.out)
              clear hb
              go_wp2_with fail
              go_ret
              exact ⟨rfl, HB.out⟩
            · skip
              have hl : L = true := by have h := HLL.out; rw [x1, x2] at h; exact h.symm
              subst hl
              have zf0 := cellH HNf.out 0
              have zf1 := cellH HNf.out 1
              have zp0 := cellH HNp.out 0
              have zp1 := cellH HNp.out 1
              have zlv0 := cellH HNlv.out 0
              have zlv1 := cellH HNlv.out 1
              have zlv2 := cellH HNlv.out 2
              have zlv3 := cellH HNlv.out 3
              have zlv4 := cellH HNlv.out 4
              have zlv5 := cellH HNlv.out 5
              simp only [List.getElem?_toArray, List.getElem?_cons_zero, List.getElem?_cons_succ] at zf0 zf1 zp0 zp1 zlv0 zlv1 zlv2 zlv3 zlv4 zlv5
              go_wp2_with fail
              refine (H3.out _).mono ?_
              rintro e w16 ⟨rfl, hb⟩
              clear zf0 zf1 zp0 zp1 zlv0 zlv1 zlv2 zlv3 zlv4 zlv5
              replace HB := Lib.hid (HB.out.trans (hb.mono HB.out.size))
              replace HNw := Lib.hid ((hb.block _ (Array.getElem?_eq_some_iff.1 HNw.out).1).trans HNw.out)
              replace HNf := Lib.hid ((hb.block _ (Array.getElem?_eq_some_iff.1 HNf.out).1).trans HNf.out)
              replace HNp := Lib.hid ((hb.block _ (Array.getElem?_eq_some_iff.1 HNp.out).1).trans HNp.out)
              replace HNlv := Lib.hid ((hb.block _ (Array.getElem?_eq_some_iff.1 HNlv.out).1).trans HNlv.out)
              replace HNm := Lib.hid ((hb.block _ (Array.getElem?_eq_some_iff.1 HNm.out).1).trans HNm.out)
              clear hb
              clear e1 e2 e3 e4 e5 e6
              have zw0 := cellH HNw.out 0
              have zw1 := cellH HNw.out 1
              have zf0 := cellH HNf.out 0
              have zf1 := cellH HNf.out 1
              have zp0 := cellH HNp.out 0
              have zp1 := cellH HNp.out 1
              have zlv0 := cellH HNlv.out 0
              have zlv1 := cellH HNlv.out 1
              have zlv2 := cellH HNlv.out 2
              have zlv3 := cellH HNlv.out 3
              have zlv4 := cellH HNlv.out 4
              have zlv5 := cellH HNlv.out 5
              have zm0 := cellH HNm.out 0
              have zm1 := cellH HNm.out 1
              have zm2 := cellH HNm.out 2
              have zm3 := cellH HNm.out 3
              have zm4 := cellH HNm.out 4
              have zm5 := cellH HNm.out 5
              simp only [List.getElem?_toArray, List.getElem?_cons_zero, List.getElem?_cons_succ] at zw0 zw1 zf0 zf1 zp0 zp1 zlv0 zlv1 zlv2 zlv3 zlv4 zlv5 zm0 zm1 zm2 zm3 zm4 zm5
              go_wp2_with fail
              refine (H5.out _).mono ?_
              rintro e w17 ⟨rfl, hb⟩
              clear zw0 zw1 zf0 zf1 zp0 zp1 zlv0 zlv1 zlv2 zlv3 zlv4 zlv5 zm0 zm1 zm2 zm3 zm4 zm5
              replace HB := Lib.hid (HB.out.trans (hb.mono HB.out.size))
              replace HNw := Lib.hid ((hb.block _ (Array.getElem?_eq_some_iff.1 HNw.out).1).trans HNw.out)
              replace HNf := Lib.hid ((hb.block _ (Array.getElem?_eq_some_iff.1 HNf.out).1).trans HNf.out)
              replace HNp := Lib.hid ((hb.block _ (Array.getElem?_eq_some_iff.1 HNp.out).1).trans HNp.out)
              replace HNlv := Lib.hid ((hb.block _ (Array.getElem?_eq_some_iff.1 HNlv.out).1).trans HNlv.out)
              replace HNm := Lib.hid ((hb.block _ (Array.getElem?_eq_some_iff.1 HNm.out).1).trans HNm.out)
              clear hb
              go_wp2_with fail
              go_ret
              exact ⟨rfl, HB.out⟩
        · skip
          have zw0 := cellH HNw.out 0
          have zw1 := cellH HNw.out 1
          have zf0 := cellH HNf.out 0
          have zf1 := cellH HNf.out 1
          have zp0 := cellH HNp.out 0
          have zp1 := cellH HNp.out 1
          have zlv0 := cellH HNlv.out 0
          have zlv1 := cellH HNlv.out 1
          have zlv2 := cellH HNlv.out 2
          have zlv3 := cellH HNlv.out 3
          have zlv4 := cellH HNlv.out 4
          have zlv5 := cellH HNlv.out 5
          have zm0 := cellH HNm.out 0
          have zm1 := cellH HNm.out 1
          have zm2 := cellH HNm.out 2
          have zm3 := cellH HNm.out 3
          have zm4 := cellH HNm.out 4
          have zm5 := cellH HNm.out 5
          simp only [List.getElem?_toArray, List.getElem?_cons_zero, List.getElem?_cons_succ] at zw0 zw1 zf0 zf1 zp0 zp1 zlv0 zlv1 zlv2 zlv3 zlv4 zlv5 zm0 zm1 zm2 zm3 zm4 zm5
          go_wp2_with fail
          refine (H3.out _).mono ?_
          rintro e w18 ⟨rfl, hb⟩
          clear zw0 zw1 zf0 zf1 zp0 zp1 zlv0 zlv1 zlv2 zlv3 zlv4 zlv5 zm0 zm1 zm2 zm3 zm4 zm5
          replace HB := Lib.hid (HB.out.trans (hb.mono HB.out.size))
          replace HNw := Lib.hid ((hb.block _ (Array.getElem?_eq_some_iff.1 HNw.out).1).trans HNw.out)
          replace HNf := Lib.hid ((hb.block _ (Array.getElem?_eq_some_iff.1 HNf.out).1).trans HNf.out)
          replace HNp := Lib.hid ((hb.block _ (Array.getElem?_eq_some_iff.1 HNp.out).1).trans HNp.out)
          replace HNlv := Lib.hid ((hb.block _ (Array.getElem?_eq_some_iff.1 HNlv.out).1).trans HNlv.out)
          replace HNm := Lib.hid ((hb.block _ (Array.getElem?_eq_some_iff.1 HNm.out).1).trans HNm.out)
          clear hb
          go_wp2_with fail
          go_ret
          exact ⟨rfl, HB.out⟩
end Go.Proofs.Ytpaihnjgpookjaa
