/- Package firetowerref05: Check. -/
import Derived.Test.YtpaihnjgpookjaaCE7
import Derived.Test.YtpaihnjgpookjaaCB2
set_option linter.unusedVariables false
set_option linter.unusedSimpArgs false
namespace Go.Proofs.Ytpaihnjgpookjaa
open Go Go.RowKit

theorem ciF_take_none {l : List Ci} {id : Int} {n : Nat} (hn : n ≤ l.length) (h : ∀ j, j < n → ((l.getD j .nil).id == id) = false) : ciF (l.take n) id = none := by
  refine ciF_miss fun j hj => ?_
  rw [List.length_take] at hj
  have := h j (by omega)
  rwa [List.getD_eq_getElem?_getD, List.getElem?_take_of_lt (by omega), ← List.getD_eq_getElem?_getD]
theorem ciF_take_some {l : List Ci} {id : Int} {n j : Nat} (hn : n ≤ l.length) (hj : j < n) (h : ((l.getD j .nil).id == id) = true) : (ciF (l.take n) id).isSome = true := by
  unfold ciF
  rw [List.find?_isSome]
  refine ⟨l.getD j .nil, ?_, h⟩
  rw [List.getD_eq_getElem?_getD, List.getElem?_eq_getElem (by omega)]
  exact List.mem_take_iff_getElem.2 ⟨j, by omega, rfl⟩
theorem ckF_take_none {l : List Ck} {id : Int} {n : Nat} (hn : n ≤ l.length) (h : ∀ j, j < n → ((l.getD j .nil).id == id) = false) : ckF (l.take n) id = none := by
  refine ckF_miss fun j hj => ?_
  rw [List.length_take] at hj
  have := h j (by omega)
  rwa [List.getD_eq_getElem?_getD, List.getElem?_take_of_lt (by omega), ← List.getD_eq_getElem?_getD]
theorem ckF_take_some {l : List Ck} {id : Int} {n j : Nat} (hn : n ≤ l.length) (hj : j < n) (h : ((l.getD j .nil).id == id) = true) : (ckF (l.take n) id).isSome = true := by
  unfold ckF
  rw [List.find?_isSome]
  refine ⟨l.getD j .nil, ?_, h⟩
  rw [List.getD_eq_getElem?_getD, List.getElem?_eq_getElem (by omega)]
  exact List.mem_take_iff_getElem.2 ⟨j, by omega, rfl⟩
theorem belowN {n : Nat} {w W : World} (h : Below n w W) (k : Nat) : Below n w (W.drewN k) := ⟨h.os, h.tape, h.output, h.size, h.block⟩
set_option maxRecDepth 100000 in
set_option maxHeartbeats 8000000 in
theorem pCheck_any (v1 v2 : Value) (cs : List Ci) (ks : List Ck) (w : World) (hv1 : CiRow w v1 cs) (hv2 : CkRow w v2 ks) (hl1 : cs.length ≤ 9223372036854775807) (hl2 : ks.length ≤ 9223372036854775807) :
    Calls Try.prog 24 #[.agg #[v1, v2]] w fun e w' => e = .returned (.int .i64 (ccE cs ks)) ∧ Below w.heap.size w w' := by
  obtain ⟨a1, c1, rfl, hc1⟩ := hv1.form
  obtain ⟨a2, c2, rfl, hc2⟩ := hv2.form
  have HC1 := Lib.hid hc1
  have HC2 := Lib.hid hc2
  have HV1 := Lib.hid hv1
  have HV2 := Lib.hid hv2
  have HCC : Hid (ccE cs ks = if (decide (12 < cs.length) || decide (60 < ks.length)) = true then 2 else if ciE cs cs.length = 0 then ckE cs ks ks.length else ciE cs cs.length) := Lib.hid rfl
  have HCI := Lib.hid (fun k => ccE_ci (cs := cs) (ks := ks) (k := k))
  have HCK := Lib.hid (fun k => ccE_ck (cs := cs) (ks := ks) (k := k))
  obtain ⟨E, hE⟩ : ∃ z, ccE cs ks = z := ⟨_, rfl⟩
  rw [hE] at HCC HCI HCK ⊢
  clear hc1 hc2 hv1 hv2 hE
  obtain ⟨x0, xlt, xb⟩ := cells1 w #[.slice a1 cs.length c1, .slice a2 ks.length c2] 46 (Below.refl _ _)
  have HNc : Hid ((w.alloc (.cells #[.slice a1 cs.length c1, .slice a2 ks.length c2] 46)).heap[w.heap.size]? = some (.cells #[.slice a1 cs.length c1, .slice a2 ks.length c2] 46 (0, 0))) := Lib.hid x0
  have HB : Hid (Below w.heap.size w (w.alloc (.cells #[.slice a1 cs.length c1, .slice a2 ks.length c2] 46))) := Lib.hid xb
  obtain ⟨Z, hZ⟩ : ∃ Z, (w.alloc (.cells #[.slice a1 cs.length c1, .slice a2 ks.length c2] 46)) = Z := ⟨_, rfl⟩
  rw [hZ] at HB HNc
  have HZ := Lib.hid hZ
  clear hZ xlt xb x0
  have zc0 := cellH HNc.out 0
  have zc1 := cellH HNc.out 1
  simp only [List.getElem?_toArray, List.getElem?_cons_zero, List.getElem?_cons_succ] at zc0 zc1
  by_cases h1 : 12 < cs.length
  · have h1i : (12 : Int) < (cs.length : Int) := by omega
    have HN : Hid (E = 2) := Lib.hid (by rw [HCC.out, decide_eq_true h1]; rfl)
    go_enter Try.func24, Try.ntmps24
    go_wp2_with fail
    try rw [HZ.out]
    go_ret
    exact ⟨by rw [HN.out]; rfl, HB.out⟩
  have h1i : ¬ (12 : Int) < (cs.length : Int) := by omega
  by_cases h2 : 60 < ks.length
  · have h2i : (60 : Int) < (ks.length : Int) := by omega
    have HN : Hid (E = 2) := Lib.hid (by rw [HCC.out, decide_eq_true h2]; simp)
    go_enter Try.func24, Try.ntmps24
    go_wp2_with fail
    try rw [HZ.out]
    go_ret
    exact ⟨by rw [HN.out]; rfl, HB.out⟩
  have h2i : ¬ (60 : Int) < (ks.length : Int) := by omega
  have HB0 : Hid ((decide (12 < cs.length) || decide (60 < ks.length)) = false) := Lib.hid (by rw [decide_eq_false h1, decide_eq_false h2]; rfl)
  have HCC2 : Hid (E = if ciE cs cs.length = 0 then ckE cs ks ks.length else ciE cs cs.length) := Lib.hid (by rw [HCC.out, HB0.out]; rfl)
  have HM := Lib.hid (show cs.length ≤ 12 ∧ ks.length ≤ 60 from ⟨by omega, by omega⟩)
  go_enter Try.func24, Try.ntmps24
  go_wp2_with fail
  try rw [HZ.out]
  clear zc0 zc1
  clear h1 h1i h2 h2i HCC
  go_loopw [3] (fun i wr => ∃ (k : Nat), k ≤ cs.length ∧ i = .int .i64 k ∧ Hid (ciE cs k = 0) ∧ Hid (Below w.heap.size w wr) ∧ Hid (wr.heap[w.heap.size]? = some (.cells #[.slice a1 cs.length c1, .slice a2 ks.length c2] 46 (0, 0)))) (fun i _ => cs.length - (intOf i).toNat)
  case atStart => exact ⟨0, Nat.zero_le _, rfl, Lib.hid rfl, HB, HNc⟩
  case round =>
    clear HB HNc
    obtain ⟨k, hk, rfl, hE0, HB, HNc⟩ := hrel
    have hm := HM.out
    have zc0 := cellH HNc.out 0
    have zc1 := cellH HNc.out 1
    simp only [List.getElem?_toArray, List.getElem?_cons_zero, List.getElem?_cons_succ] at zc0 zc1
    by_cases hkl : k < cs.length
    · obtain ⟨b, off, rfl, hb, hat⟩ := HC1.out k hkl
      obtain ⟨e0, e1, e2, e3, e4, e5, e6, e7⟩ := hat.keep HB.out hb
      have hki : (k : Int) < cs.length := by omega
      have hk0 : (0 : Int) ≤ k := by omega
      have HKL := Lib.hid hkl
      have HBL := Lib.hid hb
      have HES : Hid (ciE cs (k + 1) = if (cs.getD k .nil).ok then (if (ciF (cs.take k) (cs.getD k .nil).id).isSome then 6 else 0) else 1) := Lib.hid (by
        show (if ciE cs k = 0 then _ else _) = _
        rw [if_pos hE0.out])
      have HTN := Lib.hid (fun h => ciF_take_none (l := cs) (id := (cs.getD k .nil).id) (n := k) (by omega) h)
      have HTS := Lib.hid (fun j hj h => ciF_take_some (l := cs) (id := (cs.getD k .nil).id) (n := k) (j := j) (by omega) hj h)
      obtain ⟨X, hX⟩ : ∃ X, cs.getD k .nil = X := ⟨_, rfl⟩
      rw [hX] at HES HTN HTS hat e0 e1 e2 e3 e4 e5 e6 e7
      have HAT := Lib.hid hat
      have HVC := Lib.hid (fun w' => circled_any X w')
      obtain ⟨bo, hbo⟩ : ∃ z, X.ok = z := ⟨_, rfl⟩
      rw [hbo] at HVC HES
      obtain ⟨x0, x1, x2, x3, x4, x5, x6, x7⟩ := X
      simp only at e0 e1 e2 e3 e4 e5 e6 e7 HTN HTS HES
      clear hX hbo hat hb
      go_wp2_with fail
      refine (HVC.out _).mono ?_
      rintro e w1 ⟨rfl, hb⟩
      clear zc0 zc1
      replace HB := Lib.hid (HB.out.trans (hb.mono HB.out.size))
      replace HNc := Lib.hid ((hb.block _ (Array.getElem?_eq_some_iff.1 HNc.out).1).trans HNc.out)
      clear hb
      clear e0 e1 e2 e3 e4 e5 e6 e7
      cases bo
      · have HES2 : Hid (ciE cs (k + 1) = 1) := Lib.hid (by rw [HES.out]; rfl)
        have HN : Hid (E = 1) := Lib.hid (by rw [HCI.out k HB0.out HKL.out (by rw [HES2.out]; decide), HES2.out])
        go_wp2_with fail
        go_ret
        exact ⟨by rw [HN.out]; rfl, HB.out⟩
      go_wp2_with fail
      go_loopw [5] (fun j wr => ∃ (m : Nat), m ≤ k ∧ j = .int .i64 m ∧ Hid (∀ j, j < m → ((cs.getD j .nil).id == x0) = false) ∧ Hid (Below w.heap.size w wr) ∧ Hid (wr.heap[w.heap.size]? = some (.cells #[.slice (some ⟨b, off, none⟩) cs.length c1, .slice a2 ks.length c2] 46 (0, 0)))) (fun j _ => k - (intOf j).toNat)
      case atStart => exact ⟨0, Nat.zero_le _, rfl, Lib.hid (fun j hj => by omega), HB, HNc⟩
      case round =>
        clear HB HNc
        obtain ⟨m, hmk, rfl, hN, HB, HNc⟩ := hrel
        by_cases hml : m < k
        · have hkl := HKL.out
          obtain ⟨b2, off2, heq, hb, hat⟩ := HC1.out m (by omega)
          cases heq
          obtain ⟨f0, _⟩ := hat.keep HB.out hb
          obtain ⟨e0, _⟩ := HAT.out.keep HB.out HBL.out
          have hki : (k : Int) < cs.length := by omega
          have hk0 : (0 : Int) ≤ k := by omega
          have hmi : (m : Int) < cs.length := by omega
          have hm0 : (0 : Int) ≤ m := by omega
          have hmk2 : (m : Int) < k := by omega
          have HML := Lib.hid hml
          have zc0 := cellH HNc.out 0
          have zc1 := cellH HNc.out 1
          simp only [List.getElem?_toArray, List.getElem?_cons_zero, List.getElem?_cons_succ] at zc0 zc1
          have HHT := Lib.hid (HTS.out m hml)
          have HNX : Hid (((cs.getD m .nil).id == x0) = false → ∀ j, j < m + 1 → ((cs.getD j .nil).id == x0) = false) := Lib.hid (fun h j hj => by
            by_cases e : j = m
            · subst e; exact h
            · exact hN.out j (by omega))
          obtain ⟨y, hy⟩ : ∃ y, (cs.getD m .nil).id = y := ⟨_, rfl⟩
          rw [hy] at f0 HHT HNX
          simp only at e0
          clear hat hb hy hkl
          cases hE : (y == x0)
          · have HN2 := Lib.hid (HNX.out hE)
            go_wp2_with fail
            go_quiet (fail)
            go_wp2_with fail
            go_roundw
            case rel => exact ⟨m + 1, HML.out, by go_num, HN2, Lib.hid (belowN HB.out _), HNc⟩
            case measure => have := HML.out; simp [intOf]; omega
          · have HES2 : Hid (ciE cs (k + 1) = 6) := Lib.hid (by rw [HES.out, HHT.out hE]; rfl)
            have HN2 : Hid (E = 6) := Lib.hid (by rw [HCI.out k HB0.out HKL.out (by rw [HES2.out]; decide), HES2.out])
            go_wp2_with fail
            go_quiet (fail)
            go_wp2_with fail
            go_ret
            exact ⟨by rw [HN2.out]; rfl, belowN HB.out _⟩
        · obtain rfl : m = k := by omega
          have HES2 : Hid (ciE cs (m + 1) = 0) := Lib.hid (by rw [HES.out, HTN.out hN.out]; rfl)
          go_wp2_with fail
          go_roundw
          case rel => exact ⟨m + 1, HKL.out, by go_num, HES2, HB, HNc⟩
          case measure => have := HKL.out; simp [intOf]; omega
    · obtain rfl : k = cs.length := by omega
      have HCC3 : Hid (E = ckE cs ks ks.length) := Lib.hid (by rw [HCC2.out, if_pos hE0.out])
      have HCK2 := Lib.hid (fun k => HCK.out k HB0.out hE0.out)
      go_wp2_with fail
      clear zc0 zc1
      clear HCC2 HCI
      go_loopw [6] (fun i wr => ∃ (k : Nat), k ≤ ks.length ∧ i = .int .i64 k ∧ Hid (ckE cs ks k = 0) ∧ Hid (Below w.heap.size w wr) ∧ Hid (wr.heap[w.heap.size]? = some (.cells #[.slice a1 cs.length c1, .slice a2 ks.length c2] 46 (0, 0)))) (fun i _ => ks.length - (intOf i).toNat)
      case atStart => exact ⟨0, Nat.zero_le _, rfl, Lib.hid rfl, HB, HNc⟩
      case round =>
        clear HB HNc
        obtain ⟨k, hk, rfl, hF0, HB, HNc⟩ := hrel
        have zc0 := cellH HNc.out 0
        have zc1 := cellH HNc.out 1
        simp only [List.getElem?_toArray, List.getElem?_cons_zero, List.getElem?_cons_succ] at zc0 zc1
        by_cases hkl : k < ks.length
        · obtain ⟨b, off, rfl, hb, hat⟩ := HC2.out k hkl
          obtain ⟨e0, e1, e2, e3, e4, e5, e6⟩ := hat.keep HB.out hb
          have hki : (k : Int) < ks.length := by omega
          have hk0 : (0 : Int) ≤ k := by omega
          have HKL := Lib.hid hkl
          have HBL := Lib.hid hb
          have HES : Hid (ckE cs ks (k + 1) = if ceK cs (ks.getD k .nil) = 0 then (if (ckF (ks.take k) (ks.getD k .nil).id).isSome then 6 else 0) else ceK cs (ks.getD k .nil)) := Lib.hid (by
            show (if ckE cs ks k = 0 then _ else _) = _
            rw [if_pos hF0.out])
          have HTN := Lib.hid (fun h => ckF_take_none (l := ks) (id := (ks.getD k .nil).id) (n := k) (by omega) h)
          have HTS := Lib.hid (fun j hj h => ckF_take_some (l := ks) (id := (ks.getD k .nil).id) (n := k) (j := j) (by omega) hj h)
          obtain ⟨X, hX⟩ : ∃ X, ks.getD k .nil = X := ⟨_, rfl⟩
          rw [hX] at HES HTN HTS hat
          have HAT := Lib.hid hat
          have HVC := Lib.hid (fun w' (h : Below w.heap.size w w') => checked_any _ (.slice (some ⟨b, off, none⟩) ks.length c2) cs X w' (HV1.out.keep h) (by have := HM.out; omega))
          obtain ⟨ce, hce⟩ : ∃ z, ceK cs X = z := ⟨_, rfl⟩
          rw [hce] at HVC HES
          obtain ⟨x0, x1, x2, x3, x4, x5, x6⟩ := X
          simp only at HTN HTS HES
          clear hX hce hat hb e0 e1 e2 e3 e4 e5 e6
          have HRD : Hid (∀ W', Below wr.heap.size wr W' → W'.cell? ⟨w.heap.size, 0, none⟩ = some (.slice a1 cs.length c1) ∧ W'.cell? ⟨w.heap.size, 1, none⟩ = some (.slice (some ⟨b, off, none⟩) ks.length c2) ∧ CkAt W' b off k ⟨x0, x1, x2, x3, x4, x5, x6⟩) := Lib.hid (fun W' h => ⟨cellH ((h.block _ (Array.getElem?_eq_some_iff.1 HNc.out).1).trans HNc.out) 0, cellH ((h.block _ (Array.getElem?_eq_some_iff.1 HNc.out).1).trans HNc.out) 1, HAT.out.keep (HB.out.trans (h.mono HB.out.size)) HBL.out⟩)
          have CV : Hid (∀ w', Below wr.heap.size wr w' → Calls Try.prog 57 #[.agg #[.slice a1 cs.length c1, .slice (some ⟨b, off, none⟩) ks.length c2], .agg #[.int .i64 x0, .int .i64 x1, .int .i64 x2, .int .i64 x3, .int .i64 x4, .int .i64 x5, .int .i64 x6]] w' fun e w'' => e = .returned (.int .i64 ce) ∧ Below wr.heap.size wr w'') := Lib.hid (fun w' h => (HVC.out w' (HB.out.trans (h.mono HB.out.size))).mono fun e w'' ⟨he, hh⟩ => ⟨he, h.trans (hh.mono h.size)⟩)
          go_wp2_with fail
          clear zc0 zc1
          refine wp_region_turn 7 (fun _ w' => Below wr.heap.size wr w') (by kernel_rfl) (by kernel_rfl) ((Below.refl _ wr).drew) ?_
          simp only [List.take_succ_cons, List.take_zero, List.drop_succ_cons, List.drop_zero]
          iterate 7
            (first
              | (apply turnC_step (by rfl); (intro w' hw'; obtain ⟨zc0, zc1, ⟨e0, e1, e2, e3, e4, e5, e6⟩⟩ := HRD.out w' hw'; go_simp; first | with_reducible exact ⟨hw', rfl⟩ | with_reducible exact rfl))
              | (apply turnC_step (by rfl); (intro w' hw'; go_simp; first | with_reducible exact CV.out w' hw')))
            simp only [Act.put, List.setIfInBounds_toArray, List.set_cons_succ, List.set_cons_zero]
          intro listed w2 _ hb
          replace HB := Lib.hid (HB.out.trans (hb.mono HB.out.size))
          replace HNc := Lib.hid ((hb.block _ (Array.getElem?_eq_some_iff.1 HNc.out).1).trans HNc.out)
          clear hb
          by_cases hce : ce = 0
          case neg =>
            have HES2 : Hid (ckE cs ks (k + 1) = ce) := Lib.hid (by rw [HES.out, if_neg hce])
            have HN : Hid (E = ce) := Lib.hid (by rw [HCK2.out k HKL.out (by rw [HES2.out]; exact hce), HES2.out])
            have gce : (ce == 0) = false := by simpa using hce
            go_wp2_with fail
            go_ret
            exact ⟨by rw [HN.out]; rfl, HB.out⟩
          subst hce
          go_wp2_with fail
          go_loopw [8] (fun j wr => ∃ (m : Nat), m ≤ k ∧ j = .int .i64 m ∧ Hid (∀ j, j < m → ((ks.getD j .nil).id == x0) = false) ∧ Hid (Below w.heap.size w wr) ∧ Hid (wr.heap[w.heap.size]? = some (.cells #[.slice a1 cs.length c1, .slice (some ⟨b, off, none⟩) ks.length c2] 46 (0, 0)))) (fun j _ => k - (intOf j).toNat)
          case atStart => exact ⟨0, Nat.zero_le _, rfl, Lib.hid (fun j hj => by omega), HB, HNc⟩
          case round =>
            clear HB HNc
            obtain ⟨m, hmk, rfl, hN, HB, HNc⟩ := hrel
            by_cases hml : m < k
            · have hkl := HKL.out
              obtain ⟨b2, off2, heq, hb, hat⟩ := HC2.out m (by omega)
              cases heq
              obtain ⟨f0, _⟩ := hat.keep HB.out hb
              obtain ⟨e0, _⟩ := HAT.out.keep HB.out HBL.out
              have hki : (k : Int) < ks.length := by omega
              have hk0 : (0 : Int) ≤ k := by omega
              have hmi : (m : Int) < ks.length := by omega
              have hm0 : (0 : Int) ≤ m := by omega
              have hmk2 : (m : Int) < k := by omega
              have HML := Lib.hid hml
              have zc0 := cellH HNc.out 0
              have zc1 := cellH HNc.out 1
              simp only [List.getElem?_toArray, List.getElem?_cons_zero, List.getElem?_cons_succ] at zc0 zc1
              have HHT := Lib.hid (HTS.out m hml)
              have HNX : Hid (((ks.getD m .nil).id == x0) = false → ∀ j, j < m + 1 → ((ks.getD j .nil).id == x0) = false) := Lib.hid (fun h j hj => by
                by_cases e : j = m
                · subst e; exact h
                · exact hN.out j (by omega))
              obtain ⟨y, hy⟩ : ∃ y, (ks.getD m .nil).id = y := ⟨_, rfl⟩
              rw [hy] at f0 HHT HNX
              simp only at e0
              clear hat hb hy hkl
              cases hE : (y == x0)
              · have HN2 := Lib.hid (HNX.out hE)
                go_wp2_with fail
                go_quiet (fail)
                go_wp2_with fail
                go_roundw
                case rel => exact ⟨m + 1, HML.out, by go_num, HN2, Lib.hid (belowN HB.out _), HNc⟩
                case measure => have := HML.out; simp [intOf]; omega
              · have HES2 : Hid (ckE cs ks (k + 1) = 6) := Lib.hid (by rw [HES.out, HHT.out hE]; rfl)
                have HN2 : Hid (E = 6) := Lib.hid (by rw [HCK2.out k HKL.out (by rw [HES2.out]; decide), HES2.out])
                go_wp2_with fail
                go_quiet (fail)
                go_wp2_with fail
                go_ret
                exact ⟨by rw [HN2.out]; rfl, belowN HB.out _⟩
            · obtain rfl : m = k := by omega
              have HES2 : Hid (ckE cs ks (m + 1) = 0) := Lib.hid (by rw [HES.out, HTN.out hN.out]; rfl)
              go_wp2_with fail
              go_roundw
              case rel => exact ⟨m + 1, HKL.out, by go_num, HES2, HB, HNc⟩
              case measure => have := HKL.out; simp [intOf]; omega
        · obtain rfl : k = ks.length := by omega
          have HN : Hid (E = 0) := Lib.hid (by rw [HCC3.out, hF0.out])
          go_wp2_with fail
          go_ret
          exact ⟨by rw [HN.out]; rfl, HB.out⟩
end Go.Proofs.Ytpaihnjgpookjaa
