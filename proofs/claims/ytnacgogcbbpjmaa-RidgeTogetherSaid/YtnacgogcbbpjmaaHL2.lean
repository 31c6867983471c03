/- The reference's Check. -/
import Derived.Test.YtnacgogcbbpjmaaHL1
set_option linter.unusedVariables false
set_option linter.unusedSimpArgs false
namespace Go.Proofs.Ytnacgogcbbpjmaa
open Go Go.RowKit

theorem hz_step {en : Int} {H : List Hz} {k : Nat} (hk : k < H.length) : hzB en (H.drop k) = (decide (en < (H.getD k .nil).fr) && decide ((H.getD k .nil).fr ≤ (H.getD k .nil).to) && wiB (H.getD k .nil).to 0 1048576 && wiB (H.getD k .nil).far 0 100 && hzB (H.getD k .nil).to (H.drop (k + 1))) := by
  rw [hdrop_at hk]; rfl
theorem hz_bad {en fr to far : Int} {x : Bool} (h : ¬ (en < fr ∧ fr ≤ to ∧ 0 ≤ to ∧ to ≤ 1048576 ∧ 0 ≤ far ∧ far ≤ 100)) : (decide (en < fr) && decide (fr ≤ to) && wiB to 0 1048576 && wiB far 0 100 && x) = false := by
  rw [Bool.eq_false_iff]
  intro e
  unfold wiB at e
  simp only [Bool.and_eq_true, decide_eq_true_eq] at e
  exact h (by omega)
theorem hz_good {en fr to far : Int} {x : Bool} (h : en < fr ∧ fr ≤ to ∧ 0 ≤ to ∧ to ≤ 1048576 ∧ 0 ≤ far ∧ far ≤ 100) : (decide (en < fr) && decide (fr ≤ to) && wiB to 0 1048576 && wiB far 0 100 && x) = x := by
  unfold wiB
  rw [decide_eq_true h.1, decide_eq_true h.2.1, decide_eq_true h.2.2.1, decide_eq_true h.2.2.2.1, decide_eq_true h.2.2.2.2.1, decide_eq_true h.2.2.2.2.2]; rfl
set_option maxRecDepth 100000 in
set_option maxHeartbeats 8000000 in
theorem rCheck_any (wd hg : Int) (o tv hv : Value) (g : List Int) (T : List Tw) (H : List Hz) (w : World) (ho : INRow w o g) (hl : g.length ≤ 9223372036854775807) (ht : TwRow w tv T) (htl : T.length ≤ 9223372036854775807) (hh : HzRow w hv H) (hhl : H.length ≤ 9223372036854775807) :
    Calls Try.prog 51 #[coV wd hg o tv hv] w fun e w' => e = .returned (.int .i64 (ckE wd hg g T H)) ∧ Below w.heap.size w w' := by
  have HC1 := Lib.hid (fun w' (h : Below w.heap.size w w') => rValid_any wd hg o g w' (ho.keep h) hl)
  have HON := Lib.hid (fun p w' => rOn_any wd hg o p w')
  have HTD := Lib.hid (fun id w' (h : Below w.heap.size w w') => rtowered_any wd hg o tv hv T id w' (ht.keep h) htl)
  have HV : Hid (ckE wd hg g T H = if vmB wd hg g = true then (if T.length ≤ 12 ∧ H.length ≤ 60 then (if tgE wd hg [] T = 0 then (if hzB (-1) H = true then 0 else 1) else tgE wd hg [] T) else 2) else 1) := Lib.hid rfl
  obtain ⟨at0, tcap, rfl, htc⟩ := ht.form
  have HTC := Lib.hid htc
  obtain ⟨ah, hcap, rfl, hhc⟩ := hh.form
  have HHC := Lib.hid hhc
  clear ht htc hh hhc ho hl
  unfold mpV at HC1 HON
  unfold plV at HON
  unfold coV at HTD
  unfold coV
  obtain ⟨W1, hW1, hb0, _, hrd⟩ := co_reads w wd hg o (.slice at0 T.length tcap) (.slice ah H.length hcap)
  have HW1 := Lib.hid hW1; have HB0 := Lib.hid hb0; have HRD := Lib.hid hrd
  clear hW1 hb0 hrd
  cases qm : vmB wd hg g
  · rw [qm] at HC1
    have HN : Hid (ckE wd hg g T H = 1) := Lib.hid (by rw [HV.out, qm]; rfl)
    rw [HN.out]
    clear qm
    go_enter Try.func51, Try.ntmps51
    go_wp2_with fail
    rw [← HW1.out]
    obtain ⟨q0, q1, q2, q3, q4⟩ := HRD.out W1 (Below.refl _ _)
    go_wp2_with fail
    refine (HC1.out _ HB0.out).mono ?_
    rintro e w2 ⟨rfl, hb2⟩
    have HB2 := Lib.hid (HB0.out.trans (hb2.mono HB0.out.size))
    clear hb2 q0 q1 q2 q3 q4
    go_wp2_with fail
    go_ret
    exact ⟨rfl, HB2.out⟩
  rw [qm] at HC1
  have HV2 : Hid (ckE wd hg g T H = if T.length ≤ 12 ∧ H.length ≤ 60 then (if tgE wd hg [] T = 0 then (if hzB (-1) H = true then 0 else 1) else tgE wd hg [] T) else 2) := Lib.hid (by rw [HV.out, qm, if_pos rfl])
  clear qm HV
  go_enter Try.func51, Try.ntmps51
  go_wp2_with fail
  rw [← HW1.out]
  obtain ⟨q0, q1, q2, q3, q4⟩ := HRD.out W1 (Below.refl _ _)
  go_wp2_with fail
  refine (HC1.out _ HB0.out).mono ?_
  rintro e w2 ⟨rfl, hb2⟩
  have HD2 := Lib.hid hb2
  have HB2 := Lib.hid (HB0.out.trans (hb2.mono HB0.out.size))
  clear q0 q1 q2 q3 q4
  obtain ⟨q0, q1, q2, q3, q4⟩ := HRD.out w2 hb2
  clear hb2
  by_cases c1 : T.length ≤ 12
  case neg =>
    have HN : Hid (ckE wd hg g T H = 2) := Lib.hid (by rw [HV2.out, if_neg (fun h => c1 h.1)])
    have p1 : (12 : Int) < T.length := by omega
    clear c1
    go_wp2_with fail
    go_ret
    exact ⟨ret_int' HN.out.symm, HB2.out⟩
  have n1 : ¬ (12 : Int) < T.length := by omega
  have p1 : decide ((12 : Int) < T.length) = false := decide_eq_false n1
  by_cases c2 : H.length ≤ 60
  case neg =>
    have HN : Hid (ckE wd hg g T H = 2) := Lib.hid (by rw [HV2.out, if_neg (fun h => c2 h.2)])
    have p2 : (60 : Int) < H.length := by omega
    clear c2 c1
    go_wp2_with fail
    go_ret
    exact ⟨ret_int' HN.out.symm, HB2.out⟩
  have n2 : ¬ (60 : Int) < H.length := by omega
  have p2 : decide ((60 : Int) < H.length) = false := decide_eq_false n2
  have HV3 : Hid (ckE wd hg g T H = if tgE wd hg [] T = 0 then (if hzB (-1) H = true then 0 else 1) else tgE wd hg [] T) := Lib.hid (by rw [HV2.out, if_pos ⟨c1, c2⟩])
  have HTB := Lib.hid c1
  have HHB := Lib.hid c2
  clear c1 c2 HV2
  go_wp2_with fail
  clear p1 p2 n1 n2 q0 q1 q2 q3 q4
  go_loopw [3] (fun i wr => ∃ (k : Nat), k ≤ T.length ∧ i = .int .i64 k ∧ Hid (tgE wd hg [] T = tgE wd hg (T.take k) (T.drop k)) ∧ Hid (Below W1.heap.size W1 wr)) (fun i _ => T.length - (intOf i).toNat)
  case atStart => exact ⟨0, Nat.zero_le _, rfl, Lib.hid rfl, HD2⟩
  case round =>
    obtain ⟨k, hk, rfl, hT, hB⟩ := hrel
    have HBW := Lib.hid (HB0.out.trans (hB.out.mono HB0.out.size))
    by_cases hkl : k < T.length
    · have hT' : Hid (tgE wd hg [] T = if (wiB (T.getD k .nil).id 1 1099511627776 && onB wd hg ((T.getD k .nil).x, (T.getD k .nil).y) && wiB (T.getD k .nil).h 0 200) = true then (if (twF (T.take k) (T.getD k .nil).id).isSome = true then 6 else tgE wd hg (T.take (k + 1)) (T.drop (k + 1))) else 1) := Lib.hid (by
        rw [hT.out, tdrop_at hkl, take_succ_getD hkl]; rfl)
      have HLT := Lib.hid (twI_lt hkl)
      obtain ⟨b, off, rfl, hb, c0, c1, c2, c3⟩ := HTC.out k hkl
      have hki : (k : Int) < T.length := by omega
      have hk0 : (0 : Int) ≤ k := by omega
      have e0 := (HBW.out.cell (p := ⟨b, _, none⟩) hb).trans c0
      have e1 := (HBW.out.cell (p := ⟨b, _, none⟩) hb).trans c1
      have e2 := (HBW.out.cell (p := ⟨b, _, none⟩) hb).trans c2
      have e3 := (HBW.out.cell (p := ⟨b, _, none⟩) hb).trans c3
      obtain ⟨⟨ti, tx, ty, th⟩, hx⟩ : ∃ x, T.getD k .nil = x := ⟨_, rfl⟩
      rw [hx] at e0 e1 e2 e3 hT' HLT
      simp only at e0 e1 e2 e3 hT' HLT
      have HON1 := Lib.hid (HON.out (tx, ty))
      have HTA := Lib.hid (rtall_any th)
      have HTD1 := Lib.hid (HTD.out ti)
      obtain ⟨ix, hix⟩ : ∃ x, twI T ti = x := ⟨_, rfl⟩
      rw [hix] at HTD1 HLT
      obtain ⟨fb, hfb⟩ : ∃ x, (twF (T.take k) ti).isSome = x := ⟨_, rfl⟩
      rw [hfb] at HLT hT'
      have hlt := HLT.out
      have HYB := Lib.hid ((Below.refl _ wr).alloc (Nat.le_refl _) (.cells #[.int .i64 ti, .int .i64 tx, .int .i64 ty, .int .i64 th] 48))
      have HYR : Hid ((wr.alloc (.cells #[.int .i64 ti, .int .i64 tx, .int .i64 ty, .int .i64 th] 48)).heap[wr.heap.size]? = some (.cells #[.int .i64 ti, .int .i64 tx, .int .i64 ty, .int .i64 th] 48 (0, 0))) := Lib.hid (heap_alloc_new _ _)
      obtain ⟨q0, q1, q2, q3, q4⟩ := HRD.out wr hB.out
      have z0 := HRD.out _ (hB.out.trans (HYB.out.mono hB.out.size))
      obtain ⟨Y, hY⟩ : ∃ Y, wr.alloc (.cells #[.int .i64 ti, .int .i64 tx, .int .i64 ty, .int .i64 th] 48) = Y := ⟨_, rfl⟩
      rw [hY] at HYB HYR z0
      have HY := Lib.hid hY
      have HD3 := Lib.hid (hB.out.trans (HYB.out.mono hB.out.size))
      have HB3 := Lib.hid (HB0.out.trans (HD3.out.mono HB0.out.size))
      have f0 := cellH HYR.out 0
      have f1 := cellH HYR.out 1
      have f2 := cellH HYR.out 2
      have f3 := cellH HYR.out 3
      simp at f0 f1 f2 f3
      rw [← hY] at f0 f1 f2 f3 z0
      obtain ⟨z0, z1, z2, z3, z4⟩ := z0
      clear c0 c1 c2 c3 hb hx hix hfb hY hT
      by_cases r1 : ti < 1
      · have HN : Hid (ckE wd hg g T H = 1) := Lib.hid (by rw [HV3.out, hT'.out, show wiB ti 1 1099511627776 = false by unfold wiB; rw [decide_eq_false (by omega)]; rfl]; rfl)
        go_wp2_with fail
        go_ret
        exact ⟨ret_int' HN.out.symm, by rw [HY.out]; exact HB3.out⟩
      have g1 : decide (ti < 1) = false := decide_eq_false r1
      by_cases r2 : 1099511627776 < ti
      · have HN : Hid (ckE wd hg g T H = 1) := Lib.hid (by rw [HV3.out, hT'.out, show wiB ti 1 1099511627776 = false by unfold wiB; rw [decide_eq_false (p := ti ≤ 1099511627776) (by omega), Bool.and_false]]; rfl)
        clear r1
        go_wp2_with fail
        go_ret
        exact ⟨ret_int' HN.out.symm, by rw [HY.out]; exact HB3.out⟩
      have g2 : decide (1099511627776 < ti) = false := decide_eq_false r2
      have HWI : Hid (wiB ti 1 1099511627776 = true) := Lib.hid (by unfold wiB; rw [decide_eq_true (by omega), decide_eq_true (p := ti ≤ 1099511627776) (by omega)]; rfl)
      clear r1 r2
      cases r3 : onB wd hg (tx, ty)
      · rw [r3] at HON1
        have HN : Hid (ckE wd hg g T H = 1) := Lib.hid (by rw [HV3.out, hT'.out, r3, Bool.and_false]; rfl)
        clear r3
        go_wp2_with fail
        rw [HY.out]
        refine (HON1.out _).mono ?_
        rintro e w4 ⟨rfl, hb4⟩
        have HB4 := Lib.hid (HB3.out.trans (hb4.mono HB3.out.size))
        clear hb4 q0 q1 q2 q3 q4 z0 z1 z2 z3 z4 e0 e1 e2 e3 f0 f1 f2 f3
        go_wp2_with fail
        go_ret
        exact ⟨ret_int' HN.out.symm, HB4.out⟩
      rw [r3] at HON1 hT'
      cases r4 : wiB th 0 200
      · rw [r4] at HTA
        have HN : Hid (ckE wd hg g T H = 1) := Lib.hid (by rw [HV3.out, hT'.out, r4, Bool.and_false]; rfl)
        clear r3 r4
        go_wp2_with fail
        rw [HY.out]
        refine (HON1.out _).mono ?_
        rintro e w4 ⟨rfl, hb4⟩
        have HB4 := Lib.hid (HB3.out.trans (hb4.mono HB3.out.size))
        have hyr := (hb4.block _ (Array.getElem?_eq_some_iff.1 HYR.out).1).trans HYR.out
        have h3 := cellH hyr 3
        simp at h3
        clear hb4 q0 q1 q2 q3 q4 z0 z1 z2 z3 z4 e0 e1 e2 e3 f0 f1 f2 f3 hyr
        go_wp2_with fail
        refine (HTA.out _).mono ?_
        rintro e w5 ⟨rfl, rfl⟩
        go_wp2_with fail
        go_ret
        exact ⟨ret_int' HN.out.symm, HB4.out⟩
      rw [r4] at HTA hT'
      have hT2 : Hid (tgE wd hg [] T = if fb = true then 6 else tgE wd hg (T.take (k + 1)) (T.drop (k + 1))) := Lib.hid (by rw [hT'.out, HWI.out]; rfl)
      clear r3 r4 hT'
      go_wp2_with fail
      rw [HY.out]
      refine (HON1.out _).mono ?_
      rintro e w4 ⟨rfl, hb4⟩
      have HD4 := Lib.hid (HD3.out.trans (hb4.mono HD3.out.size))
      have HB4 := Lib.hid (HB3.out.trans (hb4.mono HB3.out.size))
      have hyr := (hb4.block _ (Array.getElem?_eq_some_iff.1 HYR.out).1).trans HYR.out
      have h0 := cellH hyr 0
      have h3 := cellH hyr 3
      simp at h0 h3
      clear hb4 q0 q1 q2 q3 q4 z0 z1 z2 z3 z4 e0 e1 e2 e3 f0 f1 f2 f3 hyr
      obtain ⟨q0, q1, q2, q3, q4⟩ := HRD.out w4 HD4.out
      go_wp2_with fail
      refine (HTA.out _).mono ?_
      rintro e w5 ⟨rfl, rfl⟩
      go_wp2_with fail
      refine (HTD1.out _ HB4.out).mono ?_
      rintro e w6 ⟨rfl, hb6⟩
      have HD6 := Lib.hid (HD4.out.trans (hb6.mono HD4.out.size))
      have HB6 := Lib.hid (HB4.out.trans (hb6.mono HB4.out.size))
      clear hb6 q0 q1 q2 q3 q4 h0 h3
      cases fb
      · have HN : Hid (tgE wd hg [] T = tgE wd hg (T.take (k + 1)) (T.drop (k + 1))) := Lib.hid (by rw [hT2.out]; rfl)
        go_wp2_with fail
        go_roundw
        case rel => exact ⟨k + 1, by omega, by go_num, HN, HD6⟩
        case measure => simp [intOf]; omega
      · have HN : Hid (ckE wd hg g T H = 6) := Lib.hid (by rw [HV3.out, hT2.out]; rfl)
        go_wp2_with fail
        go_ret
        exact ⟨ret_int' HN.out.symm, HB6.out⟩
    · obtain rfl : k = T.length := by omega
      have HV4 : Hid (ckE wd hg g T H = if hzB (-1) H = true then 0 else 1) := Lib.hid (by rw [HV3.out, hT.out, List.drop_length]; rfl)
      clear hT
      obtain ⟨q0, q1, q2, q3, q4⟩ := HRD.out wr hB.out
      go_wp2_with fail
      clear q0 q1 q2 q3 q4
      have HBX := Lib.hid hB.out
      go_loopw [5] (fun i wr => ∃ (k : Nat) (en : Int), k ≤ H.length ∧ i = .int .i64 k ∧ Hid (k = 0 ∧ en = -1 ∨ ∃ j, k = j + 1 ∧ en = (H.getD j .nil).to ∧ 0 ≤ en) ∧ Hid (hzB (-1) H = hzB en (H.drop k)) ∧ Hid (Below W1.heap.size W1 wr)) (fun i _ => H.length - (intOf i).toNat)
      case atStart => exact ⟨0, -1, Nat.zero_le _, rfl, Lib.hid (.inl ⟨rfl, rfl⟩), Lib.hid rfl, HBX⟩
      case round =>
        clear hB HBW
        obtain ⟨k, en, hk, rfl, hP, hT, hB⟩ := hrel
        have HBW := Lib.hid (HB0.out.trans (hB.out.mono HB0.out.size))
        obtain ⟨q0, q1, q2, q3, q4⟩ := HRD.out wr hB.out
        by_cases hkl : k < H.length
        · obtain ⟨b, off, rfl, hb, c0, c1, c2⟩ := HHC.out k hkl
          have hki : (k : Int) < H.length := by omega
          have hk0 : (0 : Int) ≤ k := by omega
          have e0 := (HBW.out.cell (p := ⟨b, _, none⟩) hb).trans c0
          have e1 := (HBW.out.cell (p := ⟨b, _, none⟩) hb).trans c1
          have e2 := (HBW.out.cell (p := ⟨b, _, none⟩) hb).trans c2
          have hD := Lib.hid (hT.out.trans (hz_step (en := en) hkl))
          obtain ⟨⟨lo, hi, fa⟩, hx⟩ : ∃ x, H.getD k .nil = x := ⟨_, rfl⟩
          rw [hx] at e0 e1 e2 hD
          have HX := Lib.hid hx
          simp only at e0 e1 e2 hD
          have hen : -1 ≤ en := by
            rcases hP.out with ⟨_, h⟩ | ⟨_, _, _, h⟩ <;> omega
          have HBAD : Hid (¬ (en < lo ∧ lo ≤ hi ∧ 0 ≤ hi ∧ hi ≤ 1048576 ∧ 0 ≤ fa ∧ fa ≤ 100) → ckE wd hg g T H = 1) := Lib.hid (fun h => by rw [HV4.out, hD.out, hz_bad h]; rfl)
          have HGOOD : Hid ((en < lo ∧ lo ≤ hi ∧ 0 ≤ hi ∧ hi ≤ 1048576 ∧ 0 ≤ fa ∧ fa ≤ 100) → hzB (-1) H = hzB hi (H.drop (k + 1))) := Lib.hid (fun h => by rw [hD.out, hz_good h])
          have HYB := Lib.hid ((Below.refl _ wr).alloc (Nat.le_refl _) (.cells #[.int .i64 lo, .int .i64 hi, .int .i64 fa] 110))
          have HYR : Hid ((wr.alloc (.cells #[.int .i64 lo, .int .i64 hi, .int .i64 fa] 110)).heap[wr.heap.size]? = some (.cells #[.int .i64 lo, .int .i64 hi, .int .i64 fa] 110 (0, 0))) := Lib.hid (heap_alloc_new _ _)
          have z0 := HRD.out _ (hB.out.trans (HYB.out.mono hB.out.size))
          have HD3 := Lib.hid (hB.out.trans (HYB.out.mono hB.out.size))
          have HB3 := Lib.hid (HB0.out.trans (HD3.out.mono HB0.out.size))
          have f0 := cellH HYR.out 0
          have f1 := cellH HYR.out 1
          have f2 := cellH HYR.out 2
          simp at f0 f1 f2
          obtain ⟨z0, z1, z2, z3, z4⟩ := z0
          clear c0 c1 c2 hT hx hD
          by_cases r1 : lo < 0
          · have HN := Lib.hid (HBAD.out (by omega))
            go_wp2_with fail
            go_quiet (fail)
            go_wp2_with fail
            go_ret
            exact ⟨ret_int' HN.out.symm, below_drewN HB3.out _⟩
          have g1 : decide (lo < 0) = false := decide_eq_false r1
          by_cases r2 : hi < lo
          · have HN := Lib.hid (HBAD.out (by omega))
            go_wp2_with fail
            go_quiet (fail)
            go_wp2_with fail
            go_ret
            exact ⟨ret_int' HN.out.symm, below_drewN HB3.out _⟩
          have g2 : decide (hi < lo) = false := decide_eq_false r2
          by_cases r3 : 1048576 < hi
          · have HN := Lib.hid (HBAD.out (by omega))
            go_wp2_with fail
            go_quiet (fail)
            go_wp2_with fail
            go_ret
            exact ⟨ret_int' HN.out.symm, below_drewN HB3.out _⟩
          have g3 : decide (1048576 < hi) = false := decide_eq_false r3
          have HPn : Hid (k + 1 = 0 ∧ hi = -1 ∨ ∃ j, k + 1 = j + 1 ∧ hi = (H.getD j .nil).to ∧ 0 ≤ hi) := Lib.hid (.inr ⟨k, rfl, by rw [HX.out], by omega⟩)
          rcases hP.out with ⟨hk00, he⟩ | ⟨j, hkj, he, hj0⟩
          · subst hk00
            simp only [Nat.zero_mul, Nat.add_zero] at e0 e1 e2
            by_cases r5 : fa < 0
            · have HN := Lib.hid (HBAD.out (by omega))
              go_wp2_with fail
              go_quiet (fail)
              go_wp2_with fail
              go_ret
              exact ⟨ret_int' HN.out.symm, below_drewN HB3.out _⟩
            have g5 : decide (fa < 0) = false := decide_eq_false r5
            by_cases r6 : 100 < fa
            · have HN := Lib.hid (HBAD.out (by omega))
              go_wp2_with fail
              go_quiet (fail)
              go_wp2_with fail
              go_ret
              exact ⟨ret_int' HN.out.symm, below_drewN HB3.out _⟩
            have g6 : decide (100 < fa) = false := decide_eq_false r6
            have HN := Lib.hid (HGOOD.out (by omega))
            go_wp2_with fail
            go_quiet (fail)
            go_wp2_with fail
            go_roundw
            case rel => exact ⟨1, hi, by omega, by go_num, HPn, HN, Lib.hid (below_drewN HD3.out _)⟩
            case measure => simp [intOf]; omega
          · subst hkj
            obtain ⟨b', off', eb, hb', d0, d1, d2⟩ := HHC.out j (by omega)
            cases eb
            have f9 := ((HYB.out.cell (p := ⟨b, _, none⟩) (Nat.lt_of_lt_of_le hb' HBW.out.size)).trans (HBW.out.cell (p := ⟨b, _, none⟩) hb')).trans d1
            rw [← he] at f9
            have hjl : (j : Int) < H.length := by omega
            have hj00 : (0 : Int) ≤ j := by omega
            have hmx : max (0 : Int) j = j := by omega
            have hz : (0 : Int) < (j : Int) + 1 := by omega
            clear d0 d1 d2 hb' he
            by_cases r4 : lo ≤ en
            · have HN := Lib.hid (HBAD.out (by omega))
              go_wp2_with fail
              go_quiet (fail)
              go_wp2_with fail
              go_ret
              exact ⟨ret_int' HN.out.symm, below_drewN HB3.out _⟩
            have g4 : decide (lo ≤ en) = false := decide_eq_false r4
            by_cases r5 : fa < 0
            · have HN := Lib.hid (HBAD.out (by omega))
              go_wp2_with fail
              go_quiet (fail)
              go_wp2_with fail
              go_ret
              exact ⟨ret_int' HN.out.symm, below_drewN HB3.out _⟩
            have g5 : decide (fa < 0) = false := decide_eq_false r5
            by_cases r6 : 100 < fa
            · have HN := Lib.hid (HBAD.out (by omega))
              go_wp2_with fail
              go_quiet (fail)
              go_wp2_with fail
              go_ret
              exact ⟨ret_int' HN.out.symm, below_drewN HB3.out _⟩
            have g6 : decide (100 < fa) = false := decide_eq_false r6
            have HN := Lib.hid (HGOOD.out (by omega))
            go_wp2_with fail
            go_quiet (fail)
            go_wp2_with fail
            go_roundw
            case rel => exact ⟨j + 1 + 1, hi, by omega, by go_num, HPn, HN, Lib.hid (below_drewN HD3.out _)⟩
            case measure => simp [intOf]; omega
        · obtain rfl : k = H.length := by omega
          have HN : Hid (ckE wd hg g T H = 0) := Lib.hid (by rw [HV4.out, hT.out, List.drop_length]; rfl)
          go_wp2_with fail
          go_ret
          exact ⟨ret_int' HN.out.symm, HBW.out⟩
end Go.Proofs.Ytnacgogcbbpjmaa
