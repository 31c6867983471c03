/- Package firetowerlaw05: few, CircleChecks. -/
import Derived.Test.YtpaihnjgpookjaaCD9
import Derived.Test.YtpaihnjgpookjaaCF0
import Derived.Laws.StructEq
set_option linter.unusedVariables false
set_option linter.unusedSimpArgs false
namespace Go.Proofs.Ytpaihnjgpookjaa
open Go Go.RowKit

theorem upH {P : Program} {f : FuncId} {args : Array Value} {v : Value} {w Z : World} (hb : Below w.heap.size w Z) (h : ∀ w', Below w.heap.size w w' → Calls P f args w' fun e w'' => e = .returned v ∧ Below w'.heap.size w' w'') : ∀ w', Below Z.heap.size Z w' → Calls P f args w' fun e w'' => e = .returned v ∧ Below Z.heap.size Z w'' :=
  fun w' h' => (h w' (hb.trans (h'.mono hb.size))).mono fun e w'' ⟨he, hh⟩ => ⟨he, h'.trans (hh.mono h'.size)⟩
/-- At most five circles and ten checks, or too many of either. -/
def fwB (n m : Nat) : Bool := decide (12 < n) || decide (60 < m) || decide (n ≤ 5) && decide (m ≤ 10)
set_option maxRecDepth 100000 in
set_option maxHeartbeats 8000000 in
theorem few_any (a1 a2 : Option Addr) (n c1 m c2 : Nat) (w : World) : Calls Try.prog 20 #[.agg #[.slice a1 n c1, .slice a2 m c2]] w fun e w' => e = .returned (.bool (fwB n m)) ∧ Below w.heap.size w w' := by
  have HB := Lib.hid ((Below.refl w.heap.size w).alloc (Nat.le_refl _) (.cells #[.slice a1 n c1, .slice a2 m c2] 46))
  have HV : Hid (fwB n m = (decide (12 < n) || decide (60 < m) || decide (n ≤ 5) && decide (m ≤ 10))) := Lib.hid rfl
  obtain ⟨B, hB⟩ : ∃ B, fwB n m = B := ⟨_, rfl⟩
  rw [hB] at HV ⊢
  clear hB
  by_cases h1 : 12 < n
  · have i1 : (12 : Int) < (n : Int) := by omega
    have HN : Hid (B = true) := Lib.hid (by rw [HV.out, decide_eq_true h1]; rfl)
    go_enter Try.func20, Try.ntmps20
    go_wp2_with fail
    go_ret
    exact ⟨by rw [HN.out]; rfl, HB.out⟩
  have i1 : ¬ (12 : Int) < (n : Int) := by omega
  by_cases h2 : 60 < m
  · have i2 : (60 : Int) < (m : Int) := by omega
    have HN : Hid (B = true) := Lib.hid (by rw [HV.out, decide_eq_true h2]; simp)
    go_enter Try.func20, Try.ntmps20
    go_wp2_with fail
    go_ret
    exact ⟨by rw [HN.out]; rfl, HB.out⟩
  have i2 : ¬ (60 : Int) < (m : Int) := by omega
  by_cases h3 : n ≤ 5
  · have i3 : (n : Int) ≤ 5 := by omega
    by_cases h4 : m ≤ 10
    · have i4 : (m : Int) ≤ 10 := by omega
      have HN : Hid (B = true) := Lib.hid (by rw [HV.out, decide_eq_true h3, decide_eq_true h4]; simp)
      go_enter Try.func20, Try.ntmps20
      go_wp2_with fail
      go_ret
      exact ⟨by rw [HN.out]; rfl, HB.out⟩
    have i4 : ¬ (m : Int) ≤ 10 := by omega
    have HN : Hid (B = false) := Lib.hid (by rw [HV.out, decide_eq_false h1, decide_eq_false h2, decide_eq_false h4]; simp)
    go_enter Try.func20, Try.ntmps20
    go_wp2_with fail
    go_ret
    exact ⟨by rw [HN.out]; rfl, HB.out⟩
  have i3 : ¬ (n : Int) ≤ 5 := by omega
  have HN : Hid (B = false) := Lib.hid (by rw [HV.out, decide_eq_false h1, decide_eq_false h2, decide_eq_false h3]; rfl)
  go_enter Try.func20, Try.ntmps20
  go_wp2_with fail
  go_ret
  exact ⟨by rw [HN.out]; rfl, HB.out⟩
set_option maxRecDepth 100000 in
set_option maxHeartbeats 8000000 in
theorem checks_card (v1 v2 : Value) (cs : List Ci) (ks : List Ck) (id : Int) (w : World) (hv1 : CiRow w v1 cs) (hv2 : CkRow w v2 ks) (hl1 : cs.length ≤ 9223372036854775807) (hl2 : ks.length ≤ 9223372036854775807) (hid : -9223372036854775808 ≤ id ∧ id ≤ 9223372036854775807) :
    Calls Try.prog 5 #[.agg #[v1, v2], .int .i64 id] w fun e w' => e = .returned (.bool true) ∧ Below w.heap.size w w' := by
  obtain ⟨a1, c1, rfl, _⟩ := hv1.form
  obtain ⟨a2, c2, rfl, _⟩ := hv2.form
  have HF := Lib.hid (fun w' => few_any a1 a2 cs.length c1 ks.length c2 w')
  have H1 := Lib.hid (fun w' (h : Below w.heap.size w w') => Alone_any (.slice a1 cs.length c1) (.slice a2 ks.length c2) cs ks id w' (hv1.keep h) (hv2.keep h) hl1 hl2)
  have H2 := Lib.hid (fun w' (h : Below w.heap.size w w') => pAlone_any (.slice a1 cs.length c1) (.slice a2 ks.length c2) cs ks id w' (hv1.keep h) (hv2.keep h) hl1 hl2)
  have H3 := Lib.hid (fun w' (h : Below w.heap.size w w') => cCheck_any (.slice a1 cs.length c1) (.slice a2 ks.length c2) cs ks w' (hv1.keep h) (hv2.keep h) hl1 hl2)
  have H4 := Lib.hid (fun w' (h : Below w.heap.size w w') => pCheck_any (.slice a1 cs.length c1) (.slice a2 ks.length c2) cs ks w' (hv1.keep h) (hv2.keep h) hl1 hl2)
  have H5 := Lib.hid (fun w' => sanity_any w')
  rw [alnV_eq] at H1
  obtain ⟨⟨TL, TH, TE⟩, hT⟩ : ∃ T, alnT cs ks id = T := ⟨_, rfl⟩
  obtain ⟨E, hE⟩ : ∃ z, ccE cs ks = z := ⟨_, rfl⟩
  rw [hT] at H1 H2
  rw [hE] at H3 H4
  obtain ⟨n, hn⟩ : ∃ n, cs.length = n := ⟨_, rfl⟩
  obtain ⟨m, hm⟩ : ∃ n, ks.length = n := ⟨_, rfl⟩
  rw [hn, hm] at HF H1 H2 H3 H4 ⊢
  obtain ⟨B, hB⟩ : ∃ B, fwB n m = B := ⟨_, rfl⟩
  rw [hB] at HF
  clear hv1 hv2 hl1 hl2 hT hE hn hm hB
  obtain ⟨x0, xlt, xb⟩ := cells1 w #[.slice a1 n c1, .slice a2 m c2] 46 (Below.refl _ _)
  have HNc : Hid ((w.alloc (.cells #[.slice a1 n c1, .slice a2 m c2] 46)).heap[w.heap.size]? = some (.cells #[.slice a1 n c1, .slice a2 m c2] 46 (0, 0))) := Lib.hid x0
  have HB : Hid (Below w.heap.size w (w.alloc (.cells #[.slice a1 n c1, .slice a2 m c2] 46))) := Lib.hid xb
  obtain ⟨Z, hZ⟩ : ∃ Z, (w.alloc (.cells #[.slice a1 n c1, .slice a2 m c2] 46)) = Z := ⟨_, rfl⟩
  rw [hZ] at HB HNc
  have HZ := Lib.hid hZ
  clear hZ xlt xb x0
  go_enter Try.func5, Try.ntmps5
  go_wp2_with fail
  rw [HZ.out]
  refine (HF.out _).mono ?_
  rintro e w1 ⟨rfl, hb⟩
  replace HB := Lib.hid (HB.out.trans (hb.mono HB.out.size))
  replace HNc := Lib.hid ((hb.block _ (Array.getElem?_eq_some_iff.1 HNc.out).1).trans HNc.out)
  clear hb
  cases B
  · skip
    have zc0 := cellH HNc.out 0
    have zc1 := cellH HNc.out 1
    simp only [List.getElem?_toArray, List.getElem?_cons_zero, List.getElem?_cons_succ] at zc0 zc1
    go_wp2_with fail
    refine (H5.out _).mono ?_
    rintro e w2 ⟨rfl, hb⟩
    clear zc0 zc1
    replace HB := Lib.hid (HB.out.trans (hb.mono HB.out.size))
    replace HNc := Lib.hid ((hb.block _ (Array.getElem?_eq_some_iff.1 HNc.out).1).trans HNc.out)
    clear hb
    go_wp2_with fail
    go_ret
    exact ⟨rfl, HB.out⟩
  have zc0 := cellH HNc.out 0
  have zc1 := cellH HNc.out 1
  simp only [List.getElem?_toArray, List.getElem?_cons_zero, List.getElem?_cons_succ] at zc0 zc1
  go_wp2_with fail
  refine (H1.out _ HB.out).mono ?_
  rintro e w3 ⟨rfl, hb⟩
  clear zc0 zc1
  replace HB := Lib.hid (HB.out.trans (hb.mono HB.out.size))
  replace HNc := Lib.hid ((hb.block _ (Array.getElem?_eq_some_iff.1 HNc.out).1).trans HNc.out)
  clear hb
  have hAlc : Below w3.heap.size w3 (w3.alloc (.cells #[.int .i64 TL, .int .i64 TH] 49)) := (Below.refl _ w3).alloc (Nat.le_refl _) _
  have HSsp : Hid (w.heap.size ≤ w3.heap.size) := Lib.hid HB.out.size
  have HNsp : Hid ((w3.alloc (.cells #[.int .i64 TL, .int .i64 TH] 49)).heap[w3.heap.size]? = some (.cells #[.int .i64 TL, .int .i64 TH] 49 (0, 0))) := Lib.hid (heap_alloc_new _ _)
  replace HB := Lib.hid (HB.out.trans (hAlc.mono HB.out.size))
  have HXc_sp : Hid (w.heap.size ≠ w3.heap.size) := Lib.hid (Nat.ne_of_lt (Array.getElem?_eq_some_iff.1 HNc.out).1)
  replace HNc := Lib.hid ((hAlc.block _ (Array.getElem?_eq_some_iff.1 HNc.out).1).trans HNc.out)
  obtain ⟨asp, hasp⟩ : ∃ qq, w3.alloc (.cells #[.int .i64 TL, .int .i64 TH] 49) = qq := ⟨_, rfl⟩
  obtain ⟨bksp, hbsp⟩ : ∃ qq, w3.heap.size = qq := ⟨_, rfl⟩
  rw [hasp] at HB HNsp HNc
  rw [hbsp] at HNsp HSsp HXc_sp
  clear hAlc
  have zc0 := cellH HNc.out 0
  have zc1 := cellH HNc.out 1
  simp only [List.getElem?_toArray, List.getElem?_cons_zero, List.getElem?_cons_succ] at zc0 zc1
  go_wp2_with fail
  try clear hasp hbsp
  refine (H2.out _ HB.out).mono ?_
  rintro e w4 ⟨rfl, hb⟩
  clear zc0 zc1
  replace HB := Lib.hid (HB.out.trans (hb.mono HB.out.size))
  replace HNc := Lib.hid ((hb.block _ (Array.getElem?_eq_some_iff.1 HNc.out).1).trans HNc.out)
  replace HNsp := Lib.hid ((hb.block _ (Array.getElem?_eq_some_iff.1 HNsp.out).1).trans HNsp.out)
  clear hb
  have hAlc : Below w4.heap.size w4 (w4.alloc (.cells #[.int .i64 TL, .int .i64 TH, .int .i64 TE] 54)) := (Below.refl _ w4).alloc (Nat.le_refl _) _
  have HSk : Hid (w.heap.size ≤ w4.heap.size) := Lib.hid HB.out.size
  have HNk : Hid ((w4.alloc (.cells #[.int .i64 TL, .int .i64 TH, .int .i64 TE] 54)).heap[w4.heap.size]? = some (.cells #[.int .i64 TL, .int .i64 TH, .int .i64 TE] 54 (0, 0))) := Lib.hid (heap_alloc_new _ _)
  replace HB := Lib.hid (HB.out.trans (hAlc.mono HB.out.size))
  have HXc_k : Hid (w.heap.size ≠ w4.heap.size) := Lib.hid (Nat.ne_of_lt (Array.getElem?_eq_some_iff.1 HNc.out).1)
  have HXsp_k : Hid (bksp ≠ w4.heap.size) := Lib.hid (Nat.ne_of_lt (Array.getElem?_eq_some_iff.1 HNsp.out).1)
  replace HNc := Lib.hid ((hAlc.block _ (Array.getElem?_eq_some_iff.1 HNc.out).1).trans HNc.out)
  replace HNsp := Lib.hid ((hAlc.block _ (Array.getElem?_eq_some_iff.1 HNsp.out).1).trans HNsp.out)
  obtain ⟨ak, hak⟩ : ∃ qq, w4.alloc (.cells #[.int .i64 TL, .int .i64 TH, .int .i64 TE] 54) = qq := ⟨_, rfl⟩
  obtain ⟨bkk, hbk⟩ : ∃ qq, w4.heap.size = qq := ⟨_, rfl⟩
  rw [hak] at HB HNk HNc HNsp
  rw [hbk] at HNk HSk HXc_k HXsp_k
  clear hAlc
  have HRD : Hid (∀ W', Below ak.heap.size ak W' → W'.cell? ⟨w.heap.size, 0, none⟩ = some (.slice a1 n c1) ∧ W'.cell? ⟨w.heap.size, 1, none⟩ = some (.slice a2 m c2) ∧ W'.cell? ⟨bksp, 0, none⟩ = some (.int .i64 TL) ∧ W'.cell? ⟨bksp, 1, none⟩ = some (.int .i64 TH) ∧ W'.cell? ⟨bkk, 0, none⟩ = some (.int .i64 TL) ∧ W'.cell? ⟨bkk, 1, none⟩ = some (.int .i64 TH) ∧ W'.cell? ⟨bkk, 2, none⟩ = some (.int .i64 TE)) := Lib.hid (fun W' h => ⟨cellH ((h.block _ (Array.getElem?_eq_some_iff.1 HNc.out).1).trans HNc.out) 0, cellH ((h.block _ (Array.getElem?_eq_some_iff.1 HNc.out).1).trans HNc.out) 1, cellH ((h.block _ (Array.getElem?_eq_some_iff.1 HNsp.out).1).trans HNsp.out) 0, cellH ((h.block _ (Array.getElem?_eq_some_iff.1 HNsp.out).1).trans HNsp.out) 1, cellH ((h.block _ (Array.getElem?_eq_some_iff.1 HNk.out).1).trans HNk.out) 0, cellH ((h.block _ (Array.getElem?_eq_some_iff.1 HNk.out).1).trans HNk.out) 1, cellH ((h.block _ (Array.getElem?_eq_some_iff.1 HNk.out).1).trans HNk.out) 2⟩)
  have C5 := Lib.hid (upC (Z := ak) H5.out)
  have C3 := Lib.hid (upH HB.out H3.out)
  have C4 := Lib.hid (upH HB.out H4.out)
  go_wp2_with fail
  try clear hak hbk
  refine wp_region_turn 20 (fun _ w' => Below ak.heap.size ak w') (by kernel_rfl) (by kernel_rfl) ((Below.refl _ ak).drew) ?_
  simp only [List.take_succ_cons, List.take_zero, List.drop_succ_cons, List.drop_zero]
  iterate 20
    (first
      | (apply turnC_skip (by rfl))
      | (apply turnC_step (by rfl); (intro w' hw'; obtain ⟨zc0, zc1, zsp0, zsp1, zk0, zk1, zk2⟩ := HRD.out w' hw'; go_simp; first | with_reducible exact ⟨hw', rfl⟩ | with_reducible exact rfl))
      | (apply turnC_step (by rfl); (intro w' hw'; go_simp; first | with_reducible exact C5.out w' hw' | with_reducible exact C3.out w' hw' | with_reducible exact C4.out w' hw')))
    simp only [Act.put, List.setIfInBounds_toArray, List.set_cons_succ, List.set_cons_zero]
  intro listed w5 _ hb
  replace HB := Lib.hid (HB.out.trans (hb.mono HB.out.size))
  replace HNc := Lib.hid ((hb.block _ (Array.getElem?_eq_some_iff.1 HNc.out).1).trans HNc.out)
  replace HNsp := Lib.hid ((hb.block _ (Array.getElem?_eq_some_iff.1 HNsp.out).1).trans HNsp.out)
  replace HNk := Lib.hid ((hb.block _ (Array.getElem?_eq_some_iff.1 HNk.out).1).trans HNk.out)
  clear hb
  go_wp2_with fail
  go_ret
  exact ⟨rfl, HB.out⟩
end Go.Proofs.Ytpaihnjgpookjaa
