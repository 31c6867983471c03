/- Package circle: Check. -/
import Derived.Test.YtebdboacmeafaaaGreatCB1
set_option linter.unusedVariables false
set_option linter.unusedSimpArgs false
namespace Go.Proofs.YtebdboacmeafaaaGreat
open Go Go.RowKit

/-- The first error of the first circles. -/
def ciE (l : List Ci) : Nat → Int
  | 0 => 0
  | k + 1 => if ciE l k = 0 then (if (l.getD k .nil).ok then (if (ciF (l.take k) (l.getD k .nil).id).isSome then 6 else 0) else 1) else ciE l k
/-- The first error of the first checks. -/
def ckE (cs : List Ci) (l : List Ck) : Nat → Int
  | 0 => 0
  | k + 1 => if ckE cs l k = 0 then (if ceK cs (l.getD k .nil) = 0 then (if (ckF (l.take k) (l.getD k .nil).id).isSome then 6 else 0) else ceK cs (l.getD k .nil)) else ckE cs l k
theorem ciE_keep {l : List Ci} {k : Nat} (h : ciE l k ≠ 0) : ∀ n, k ≤ n → ciE l n = ciE l k := by
  intro n hn
  induction n with
  | zero =>
    obtain rfl : k = 0 := by omega
    rfl
  | succ n ih =>
    rcases Nat.lt_or_ge n k with h1 | h1
    · obtain rfl : k = n + 1 := by omega
      rfl
    · have := ih h1
      show (if ciE l n = 0 then _ else ciE l n) = _
      rw [if_neg (by rw [this]; exact h), this]
theorem ckE_keep {cs : List Ci} {l : List Ck} {k : Nat} (h : ckE cs l k ≠ 0) : ∀ n, k ≤ n → ckE cs l n = ckE cs l k := by
  intro n hn
  induction n with
  | zero =>
    obtain rfl : k = 0 := by omega
    rfl
  | succ n ih =>
    rcases Nat.lt_or_ge n k with h1 | h1
    · obtain rfl : k = n + 1 := by omega
      rfl
    · have := ih h1
      show (if ckE cs l n = 0 then _ else ckE cs l n) = _
      rw [if_neg (by rw [this]; exact h), this]
/-- The first error of circles. -/
def ccE (cs : List Ci) (ks : List Ck) : Int :=
  if (decide (12 < cs.length) || decide (60 < ks.length)) = true then 2 else if ciE cs cs.length = 0 then ckE cs ks ks.length else ciE cs cs.length
theorem ccE_ci {cs : List Ci} {ks : List Ck} {k : Nat} (h0 : (decide (12 < cs.length) || decide (60 < ks.length)) = false) (hk : k < cs.length) (he : ciE cs (k + 1) ≠ 0) : ccE cs ks = ciE cs (k + 1) := by
  unfold ccE
  rw [h0, ciE_keep he cs.length hk, if_neg (by simp), if_neg he]
theorem ccE_ck {cs : List Ci} {ks : List Ck} {k : Nat} (h0 : (decide (12 < cs.length) || decide (60 < ks.length)) = false) (hc : ciE cs cs.length = 0) (hk : k < ks.length) (he : ckE cs ks (k + 1) ≠ 0) : ccE cs ks = ckE cs ks (k + 1) := by
  unfold ccE
  rw [h0, if_pos hc, ckE_keep he ks.length hk, if_neg (by simp)]
/-- The worlds and frames in the head of a region. -/
def ChI1 (W1 : World) (wz vb b off n c k : Nat) (a0 r0 r1 r2 r3 r4 r5 r6 r7 : Int) (rb : Bool) (u0 u2 u5 u6 u7 u8 u9 u10 u11 u12 u13 u14 u15 u16 u17 u18 u19 u20 u21 u22 u23 u24 u25 u26 u27 u28 u29 u30 u31 u32 u33 u34 u35 u36 u37 u38 u39 u40 u41 u42 u43 u44 u45 u46 u47 u48 u49 u50 u51 u52 u53 u54 u55 u56 u57 u58 u59 u60 u61 u62 u63 : Value) (listed : Array Bool) (a : Act) (w' : World) : Prop :=
  ∃ (l0 l1 l2 l3 l4 l5 l6 l7 l8 l9 l10 l11 l12 : Bool) (A : Nat), listed = #[l0, l1, l2, l3, l4, l5, l6, l7, l8, l9, l10, l11, l12] ∧ a = { tmps := #[u0, .pointer (some ⟨wz, 0, none⟩), u2, .int .i64 (k : Nat), .pointer (some ⟨vb, 0, none⟩), pkIf l10 (.pointer (some ⟨A, 0, none⟩)) (u5), pkIf l12 (.bool rb) (u6), u7, u8, u9, u10, u11, u12, u13, u14, u15, u16, u17, u18, u19, u20, u21, u22, u23, u24, pkIf l7 (.tuple #[.agg #[.int .i64 r0, .int .i64 r1, .int .i64 r2, .int .i64 r3, .int .i64 r4, .int .i64 r5, .int .i64 r6, .int .i64 r7], .bool rb]) (u25), pkIf l0 (.pointer (some ⟨wz, 0, none⟩)) (u26), pkIf l1 (.slice (some ⟨b, off, none⟩) n c) (u27), pkIf l2 (.int .i64 (k : Nat)) (u28), pkIf l3 (.slice (some ⟨b, off, none⟩) k c) (u29), pkIf l4 (.pointer (some ⟨vb, 0, none⟩)) (u30), pkIf l5 (.int .i64 a0) (u31), pkIf l6 (.tuple #[.agg #[.int .i64 r0, .int .i64 r1, .int .i64 r2, .int .i64 r3, .int .i64 r4, .int .i64 r5, .int .i64 r6, .int .i64 r7], .bool rb]) (u32), pkIf l8 (.agg #[.int .i64 r0, .int .i64 r1, .int .i64 r2, .int .i64 r3, .int .i64 r4, .int .i64 r5, .int .i64 r6, .int .i64 r7]) (u33), pkIf l9 (.bool rb) (u34), u35, u36, u37, u38, u39, u40, u41, u42, u43, u44, u45, u46, u47, u48, u49, u50, u51, u52, u53, u54, u55, u56, u57, u58, u59, u60, u61, u62, u63], defers := [] } ∧ Below W1.heap.size W1 w' ∧ (l10 = true → W1.heap.size ≤ A ∧ w'.heap[A]? = some (.cells #[if l11 = true then (.int .i64 r0) else (.int .i64 0), if l11 = true then (.int .i64 r1) else (.int .i64 0), if l11 = true then (.int .i64 r2) else (.int .i64 0), if l11 = true then (.int .i64 r3) else (.int .i64 0), if l11 = true then (.int .i64 r4) else (.int .i64 0), if l11 = true then (.int .i64 r5) else (.int .i64 0), if l11 = true then (.int .i64 r6) else (.int .i64 0), if l11 = true then (.int .i64 r7) else (.int .i64 0)] 93 (0, 0))) ∧ (l11 = true → l10 = true)
/-- The worlds and frames in the head of a region. -/
def ChI2 (W1 : World) (wz vb b off n c k : Nat) (a0 r0 r1 r2 r3 r4 r5 r6 : Int) (rb : Bool) (u0 u2 u3 u4 u5 u6 u9 u10 u11 u12 u13 u14 u15 u16 u17 u18 u19 u20 u21 u22 u23 u24 u25 u26 u27 u28 u29 u30 u31 u32 u33 u34 u35 u36 u37 u38 u39 u40 u41 u42 u43 u44 u45 u46 u47 u48 u49 u50 u51 u52 u53 u54 u55 u56 u57 u58 u59 u60 u61 u62 u63 : Value) (listed : Array Bool) (a : Act) (w' : World) : Prop :=
  ∃ (l0 l1 l2 l3 l4 l5 l6 l7 l8 l9 l10 l11 l12 : Bool) (A : Nat), listed = #[l0, l1, l2, l3, l4, l5, l6, l7, l8, l9, l10, l11, l12] ∧ a = { tmps := #[u0, .pointer (some ⟨wz, 0, none⟩), u2, u3, u4, u5, u6, .int .i64 (k : Nat), .pointer (some ⟨vb, 0, none⟩), u9, pkIf l10 (.pointer (some ⟨A, 0, none⟩)) (u10), pkIf l12 (.bool rb) (u11), u12, u13, u14, u15, u16, u17, u18, u19, u20, u21, u22, u23, u24, u25, u26, u27, u28, u29, u30, u31, u32, u33, u34, u35, u36, u37, u38, u39, u40, u41, u42, u43, u44, u45, u46, u47, u48, u49, u50, u51, pkIf l7 (.tuple #[.agg #[.int .i64 r0, .int .i64 r1, .int .i64 r2, .int .i64 r3, .int .i64 r4, .int .i64 r5, .int .i64 r6], .bool rb]) (u52), pkIf l0 (.pointer (some ⟨wz, 1, none⟩)) (u53), pkIf l1 (.slice (some ⟨b, off, none⟩) n c) (u54), pkIf l2 (.int .i64 (k : Nat)) (u55), pkIf l3 (.slice (some ⟨b, off, none⟩) k c) (u56), pkIf l4 (.pointer (some ⟨vb, 0, none⟩)) (u57), pkIf l5 (.int .i64 a0) (u58), pkIf l6 (.tuple #[.agg #[.int .i64 r0, .int .i64 r1, .int .i64 r2, .int .i64 r3, .int .i64 r4, .int .i64 r5, .int .i64 r6], .bool rb]) (u59), pkIf l8 (.agg #[.int .i64 r0, .int .i64 r1, .int .i64 r2, .int .i64 r3, .int .i64 r4, .int .i64 r5, .int .i64 r6]) (u60), pkIf l9 (.bool rb) (u61), u62, u63], defers := [] } ∧ Below W1.heap.size W1 w' ∧ (l10 = true → W1.heap.size ≤ A ∧ w'.heap[A]? = some (.cells #[if l11 = true then (.int .i64 r0) else (.int .i64 0), if l11 = true then (.int .i64 r1) else (.int .i64 0), if l11 = true then (.int .i64 r2) else (.int .i64 0), if l11 = true then (.int .i64 r3) else (.int .i64 0), if l11 = true then (.int .i64 r4) else (.int .i64 0), if l11 = true then (.int .i64 r5) else (.int .i64 0), if l11 = true then (.int .i64 r6) else (.int .i64 0)] 67 (0, 0))) ∧ (l11 = true → l10 = true)
set_option maxRecDepth 100000 in
set_option maxHeartbeats 8000000 in
theorem cCheck_any (v1 v2 : Value) (cs : List Ci) (ks : List Ck) (w : World) (hv1 : CiRow w v1 cs) (hv2 : CkRow w v2 ks) (hl1 : cs.length ≤ 9223372036854775807) (hl2 : ks.length ≤ 9223372036854775807) :
    Calls Tryz.prog 38 #[.agg #[v1, v2]] w fun e w' => e = .returned (.int .i64 (ccE cs ks)) ∧ Below w.heap.size w w' := by
  obtain ⟨a1, c1, rfl, hc1⟩ := hv1.form
  obtain ⟨a2, c2, rfl, hc2⟩ := hv2.form
  have HC1 := Lib.hid hc1
  have HC2 := Lib.hid hc2
  have HV1 := Lib.hid hv1
  have HV2 := Lib.hid hv2
  have HTM := Lib.hid (fun w' => tooMany_any a1 a2 cs.length c1 ks.length c2 w' hl1 hl2)
  have HCC : Hid (ccE cs ks = if (decide (12 < cs.length) || decide (60 < ks.length)) = true then 2 else if ciE cs cs.length = 0 then ckE cs ks ks.length else ciE cs cs.length) := Lib.hid rfl
  have HCI := Lib.hid (fun k => ccE_ci (cs := cs) (ks := ks) (k := k))
  have HCK := Lib.hid (fun k => ccE_ck (cs := cs) (ks := ks) (k := k))
  have HBQ : Hid ((decide (12 < cs.length) || decide (60 < ks.length)) = false → cs.length ≤ 12 ∧ ks.length ≤ 60) := Lib.hid (fun h => by
    rw [Bool.or_eq_false_iff, decide_eq_false_iff_not, decide_eq_false_iff_not] at h; omega)
  obtain ⟨B, hB⟩ : ∃ z, (decide (12 < cs.length) || decide (60 < ks.length)) = z := ⟨_, rfl⟩
  obtain ⟨E, hE⟩ : ∃ z, ccE cs ks = z := ⟨_, rfl⟩
  rw [hB] at HTM HCC HCI HCK HBQ
  rw [hE] at HCC HCI HCK ⊢
  have HA := Lib.hid (fun W' => cells1 w #[.slice a1 cs.length c1, .slice a2 ks.length c2] 25 (W := W'))
  have HB0 := Lib.hid (Below.refl (w.alloc (.cells #[.slice a1 cs.length c1, .slice a2 ks.length c2] 25)).heap.size (w.alloc (.cells #[.slice a1 cs.length c1, .slice a2 ks.length c2] 25)))
  obtain ⟨Z, hZ⟩ : ∃ Z, w.alloc (.cells #[.slice a1 cs.length c1, .slice a2 ks.length c2] 25) = Z := ⟨_, rfl⟩
  rw [hZ] at HA HB0
  have HZ := Lib.hid hZ
  have HRD : Hid (∀ W', Below Z.heap.size Z W' → (W'.cell? ⟨w.heap.size, 0, none⟩ = some (.slice a1 cs.length c1) ∧ W'.cell? ⟨w.heap.size, 1, none⟩ = some (.slice a2 ks.length c2)) ∧ Below w.heap.size w W') := Lib.hid (fun W' h => by
    obtain ⟨z0, _, zb⟩ := HA.out W' h
    exact ⟨⟨cellH z0 0, cellH z0 1⟩, zb⟩)
  clear hZ hB hE hc1 hc2 hv1 hv2
  go_enter Tryz.func38, Tryz.ntmps38
  go_wp2_with fail
  rw [HZ.out]
  refine (HTM.out Z).mono ?_
  rintro e w1 ⟨rfl, hb1⟩
  have HB1 := Lib.hid hb1
  obtain ⟨⟨q0, q1⟩, zb⟩ := HRD.out w1 hb1
  have HZB := Lib.hid zb
  clear hb1 zb
  cases B
  case true =>
    have HN : Hid (E = 2) := Lib.hid (by rw [HCC.out]; rfl)
    go_wp2_with fail
    go_ret
    exact ⟨by rw [HN.out]; rfl, HZB.out⟩
  obtain ⟨hm1, hm2⟩ := HBQ.out rfl
  have HM := Lib.hid (show cs.length ≤ 12 ∧ ks.length ≤ 60 from ⟨hm1, hm2⟩)
  have HCC2 : Hid (E = if ciE cs cs.length = 0 then ckE cs ks ks.length else ciE cs cs.length) := Lib.hid (by rw [HCC.out]; rfl)
  clear hm1 hm2 hl1 hl2
  go_wp2_with fail
  go_loopw [17] (fun i wr => ∃ (k : Nat), k ≤ cs.length ∧ i = .int .i64 k ∧ Hid (Below Z.heap.size Z wr) ∧ Hid (ciE cs k = 0)) (fun i _ => cs.length - (intOf i).toNat)
  case atStart => exact ⟨0, Nat.zero_le _, rfl, HB1, Lib.hid rfl⟩
  case round =>
    clear q0 q1
    obtain ⟨k, hk, rfl, hB, hE0⟩ := hrel
    obtain ⟨⟨q0, q1⟩, zb⟩ := HRD.out wr hB.out
    have hm := HM.out
    by_cases hkl : k < cs.length
    · obtain ⟨b, off, rfl, hb, hat⟩ := HC1.out k hkl
      obtain ⟨e0, e1, e2, e3, e4, e5, e6, e7⟩ := hat.keep zb hb
      have hki : (k : Int) < cs.length := by omega
      have hk0 : (0 : Int) ≤ k := by omega
      have HKL := Lib.hid hkl
      have HES : Hid (ciE cs (k + 1) = if (cs.getD k .nil).ok then (if (ciF (cs.take k) (cs.getD k .nil).id).isSome then 6 else 0) else 1) := Lib.hid (by
        show (if ciE cs k = 0 then _ else _) = _
        rw [if_pos hE0.out])
      obtain ⟨X, hX⟩ : ∃ X, cs.getD k .nil = X := ⟨_, rfl⟩
      rw [hX] at HES e0 e1 e2 e3 e4 e5 e6 e7
      have HVC := Lib.hid (fun w' => validCircle_any X w')
      have HTK : Hid (∀ w', Below Z.heap.size Z w' → Calls Tryz.prog 46 #[.slice (some ⟨b, off, none⟩) k c1, .int .i64 X.id] w' fun e w'' => e = .returned (.tuple #[((ciF (cs.take k) X.id).getD .nil).val, .bool (ciF (cs.take k) X.id).isSome]) ∧ Below w'.heap.size w' w'') := Lib.hid (fun w' h => circleOf_any _ _ X.id w' ((HV1.out.keep (HRD.out w' h).2).take k (by omega)) (by rw [List.length_take]; omega))
      obtain ⟨bo, hbo⟩ : ∃ z, X.ok = z := ⟨_, rfl⟩
      obtain ⟨R, hR⟩ : ∃ z, ciF (cs.take k) X.id = z := ⟨_, rfl⟩
      rw [hbo] at HVC HES
      rw [hR] at HTK HES
      clear hX hbo hR hat hb zb
      obtain ⟨a0, a1, a2, a3, a4, a5, a6, a7⟩ := X
      simp only at e0 e1 e2 e3 e4 e5 e6 e7 HTK
      have HBX := Lib.hid (hB.out.alloc hB.out.size (.cells #[.int .i64 a0, .int .i64 a1, .int .i64 a2, .int .i64 a3, .int .i64 a4, .int .i64 a5, .int .i64 a6, .int .i64 a7] 93))
      have HQX : Hid ((wr.alloc (.cells #[.int .i64 a0, .int .i64 a1, .int .i64 a2, .int .i64 a3, .int .i64 a4, .int .i64 a5, .int .i64 a6, .int .i64 a7] 93)).heap[wr.heap.size]? = some (.cells #[.int .i64 a0, .int .i64 a1, .int .i64 a2, .int .i64 a3, .int .i64 a4, .int .i64 a5, .int .i64 a6, .int .i64 a7] 93 (0, 0))) := Lib.hid (heap_alloc_new _ _)
      obtain ⟨vb, hvb⟩ : ∃ z, wr.heap.size = z := ⟨_, rfl⟩
      have HSZ : Hid (Z.heap.size ≤ vb) := Lib.hid (by rw [← hvb]; exact hB.out.size)
      rw [hvb] at HQX
      go_wp2_with fail
      obtain ⟨wx, hwx⟩ : ∃ X, wr.alloc (.cells #[.int .i64 a0, .int .i64 a1, .int .i64 a2, .int .i64 a3, .int .i64 a4, .int .i64 a5, .int .i64 a6, .int .i64 a7] 93) = X := ⟨_, rfl⟩
      rw [hwx] at HBX HQX ⊢
      refine (HVC.out wx).mono ?_
      rintro e w2 ⟨rfl, hb2⟩
      have HB2 := Lib.hid (HBX.out.trans (hb2.mono HBX.out.size))
      have HQ2 := Lib.hid ((hb2.block _ (Array.getElem?_eq_some_iff.1 HQX.out).1).trans HQX.out)
      clear hb2 hwx hvb e0 e1 e2 e3 e4 e5 e6 e7 q0 q1
      cases bo
      · have HES2 : Hid (ciE cs (k + 1) = 1) := Lib.hid (by rw [HES.out]; rfl)
        have HN : Hid (E = 1) := Lib.hid (by rw [HCI.out k (by trivial) HKL.out (by rw [HES2.out]; decide), HES2.out])
        have HBE := Lib.hid (HRD.out w2 HB2.out).2
        go_wp2_with fail
        go_ret
        exact ⟨by rw [HN.out]; rfl, HBE.out⟩
      have HRB : Hid (∀ W', Below w2.heap.size w2 W' → W'.cell? ⟨w.heap.size, 0, none⟩ = some (.slice (some ⟨b, off, none⟩) cs.length c1) ∧ W'.cell? ⟨vb, 0, none⟩ = some (.int .i64 a0) ∧ Below Z.heap.size Z W') := Lib.hid (fun W' h => by
        have h1 := HB2.out.trans (h.mono HB2.out.size)
        have h2 := (h.block _ (Array.getElem?_eq_some_iff.1 HQ2.out).1).trans HQ2.out
        exact ⟨(HRD.out W' h1).1.1, cellH h2 0, h1⟩)
      have hki2 : (k : Int) ≤ (cs.length : Int) := by omega
      have hkc : k ≤ c1 := by
        rcases HV1.out with ⟨_, _, h, h2⟩ | ⟨_, _, c, h, hp, _⟩
        · have := HKL.out; rw [h2] at this; simp at this
        · cases h; have := HKL.out; omega
      have hkc2 : (k : Int) ≤ (c1 : Int) := by omega
      go_wp2_with fail
      have HNO : Hid (R.isSome = false → ciE cs (k + 1) = 0) := Lib.hid (fun h => by rw [HES.out, h]; rfl)
      have HYES : Hid (R.isSome = true → E = 6) := Lib.hid (fun h => by
        have h2 : ciE cs (k + 1) = 6 := by rw [HES.out, h]; rfl
        rw [HCI.out k (by trivial) HKL.out (by rw [h2]; decide), h2])
      obtain ⟨⟨r0, r1, r2, r3, r4, r5, r6, r7⟩, hrv⟩ : ∃ X, R.getD .nil = X := ⟨_, rfl⟩
      obtain ⟨rb, hrb⟩ : ∃ z, R.isSome = z := ⟨_, rfl⟩
      rw [hrv, hrb] at HTK
      have HTK2 := Lib.hid HTK.out
      rw [hrb] at HNO HYES
      clear hrv hrb
      refine wp_region_invn (by kernel_rfl) (ChI1 w2 w.heap.size vb b off cs.length c1 k a0 r0 r1 r2 r3 r4 r5 r6 r7 rb _ _ _ _ _ _ _ _ _ _ _ _ _ _ _ _ _ _ _ _ _ _ _ _ _ _ _ _ _ _ _ _ _ _ _ _ _ _ _ _ _ _ _ _ _ _ _ _ _ _ _ _ _ _ _ _ _ _ _ _ _) ⟨false, false, false, false, false, false, false, false, false, false, false, false, false, 0, rfl, rfl, (Below.refl _ _).drew, by simp, by simp⟩ ?hend ?hstep
      case hend =>
        rintro listed a w' ⟨l0, l1, l2, l3, l4, l5, l6, l7, l8, l9, l10, l11, l12, A, rfl, rfl, hb, hA, kA⟩ hall
        have hal0 := ready_all (by kernel_rfl) rfl hall 13
        have hal : l0 = true ∧ l1 = true ∧ l2 = true ∧ l3 = true ∧ l4 = true ∧ l5 = true ∧ l6 = true ∧ l7 = true ∧ l8 = true ∧ l9 = true ∧ l10 = true ∧ l11 = true ∧ l12 = true := ⟨hal0 0 (by decide) (by simp), hal0 1 (by decide) (by simp), hal0 2 (by decide) (by simp), hal0 3 (by decide) (by simp), hal0 4 (by decide) (by simp), hal0 5 (by decide) (by simp), hal0 6 (by decide) (by simp), hal0 7 (by decide) (by simp), hal0 8 (by decide) (by simp), hal0 9 (by decide) (by simp), hal0 10 (by decide) (by simp), hal0 11 (by decide) (by simp), hal0 12 (by decide) (by simp)⟩
        obtain ⟨rfl, rfl, rfl, rfl, rfl, rfl, rfl, rfl, rfl, rfl, rfl, rfl, rfl⟩ := hal
        obtain ⟨gA, hA⟩ := hA rfl
        simp only [if_true] at hA
        simp only [pkIf_true, List.drop_succ_cons, List.drop_zero]
        clear hall hal0
        have HB3 := Lib.hid (HB2.out.trans (hb.mono HB2.out.size))
        clear hb hA gA
        cases rb
        · have HN2 := Lib.hid (HNO.out rfl)
          go_wp2_with fail
          go_roundw
          case rel => exact ⟨k + 1, HKL.out, by go_num, HB3, HN2⟩
          case measure => have := HKL.out; simp [intOf]; omega
        · have HN2 := Lib.hid (HYES.out rfl)
          have HBE := Lib.hid (HRD.out _ HB3.out).2
          go_wp2_with fail
          go_ret
          exact ⟨by rw [HN2.out]; rfl, HBE.out⟩
      case hstep =>
        rintro listed a w' i ⟨l0, l1, l2, l3, l4, l5, l6, l7, l8, l9, l10, l11, l12, A, rfl, rfl, hb, hA, kA⟩ hi
        obtain ⟨hf, o', ho', hp⟩ := mem_ready.1 hi
        have hin : i < 13 := (Array.getElem?_eq_some_iff.1 ho').1
        clear hi
        obtain ⟨q7, q8, q9⟩ := HRB.out w' hb
        match i, hin with
        | 0, _ =>
          obtain rfl : l0 = false := by simpa using hf
          clear hp ho'
          unfold wpOp
          simp only [pkIf_true]
          go_simp
          exact .inl ⟨true, l1, l2, l3, l4, l5, l6, l7, l8, l9, l10, l11, l12, A, rfl, rfl, hb, hA, kA⟩
        | 1, _ =>
          obtain rfl : l1 = false := by simpa using hf
          cases ho'
          obtain rfl : l0 = true := by simpa using hp ⟨0, .data⟩ (by simp) rfl
          clear hp
          unfold wpOp
          simp only [pkIf_true]
          go_simp
          exact .inl ⟨true, true, l2, l3, l4, l5, l6, l7, l8, l9, l10, l11, l12, A, rfl, rfl, hb, hA, kA⟩
        | 2, _ =>
          obtain rfl : l2 = false := by simpa using hf
          clear hp ho'
          unfold wpOp
          simp only [pkIf_true]
          go_simp
          exact .inl ⟨l0, l1, true, l3, l4, l5, l6, l7, l8, l9, l10, l11, l12, A, rfl, rfl, hb, hA, kA⟩
        | 3, _ =>
          obtain rfl : l3 = false := by simpa using hf
          cases ho'
          obtain rfl : l1 = true := by simpa using hp ⟨1, .data⟩ (by simp) rfl
          obtain rfl : l2 = true := by simpa using hp ⟨2, .data⟩ (by simp) rfl
          clear hp
          unfold wpOp
          simp only [pkIf_true]
          go_simp
          exact .inl ⟨l0, true, true, true, l4, l5, l6, l7, l8, l9, l10, l11, l12, A, rfl, rfl, hb, hA, kA⟩
        | 4, _ =>
          obtain rfl : l4 = false := by simpa using hf
          clear hp ho'
          unfold wpOp
          simp only [pkIf_true]
          go_simp
          exact .inl ⟨l0, l1, l2, l3, true, l5, l6, l7, l8, l9, l10, l11, l12, A, rfl, rfl, hb, hA, kA⟩
        | 5, _ =>
          obtain rfl : l5 = false := by simpa using hf
          cases ho'
          obtain rfl : l4 = true := by simpa using hp ⟨4, .data⟩ (by simp) rfl
          clear hp
          unfold wpOp
          simp only [pkIf_true]
          go_simp
          exact .inl ⟨l0, l1, l2, l3, true, true, l6, l7, l8, l9, l10, l11, l12, A, rfl, rfl, hb, hA, kA⟩
        | 6, _ =>
          obtain rfl : l6 = false := by simpa using hf
          cases ho'
          obtain rfl : l3 = true := by simpa using hp ⟨3, .data⟩ (by simp) rfl
          obtain rfl : l5 = true := by simpa using hp ⟨5, .data⟩ (by simp) rfl
          clear hp
          unfold wpOp
          simp only [pkIf_true]
          go_simp
          refine .inl ((HTK2.out w' q9).mono ?_)
          rintro e w9 ⟨rfl, hb9⟩
          exact ⟨l0, l1, l2, true, l4, true, true, l7, l8, l9, l10, l11, l12, A, rfl, rfl, hb.trans (hb9.mono hb.size), fun h => ⟨(hA h).1, (hb9.block _ (Array.getElem?_eq_some_iff.1 (hA h).2).1).trans (hA h).2⟩, kA⟩
        | 7, _ =>
          obtain rfl : l7 = false := by simpa using hf
          cases ho'
          obtain rfl : l6 = true := by simpa using hp ⟨6, .data⟩ (by simp) rfl
          clear hp
          unfold wpOp
          simp only [pkIf_true]
          go_simp
          exact .inl ⟨l0, l1, l2, l3, l4, l5, true, true, l8, l9, l10, l11, l12, A, rfl, rfl, hb, hA, kA⟩
        | 8, _ =>
          obtain rfl : l8 = false := by simpa using hf
          cases ho'
          obtain rfl : l7 = true := by simpa using hp ⟨7, .data⟩ (by simp) rfl
          clear hp
          unfold wpOp
          simp only [pkIf_true]
          go_simp
          exact .inl ⟨l0, l1, l2, l3, l4, l5, l6, true, true, l9, l10, l11, l12, A, rfl, rfl, hb, hA, kA⟩
        | 9, _ =>
          obtain rfl : l9 = false := by simpa using hf
          cases ho'
          obtain rfl : l7 = true := by simpa using hp ⟨7, .data⟩ (by simp) rfl
          clear hp
          unfold wpOp
          simp only [pkIf_true]
          go_simp
          exact .inl ⟨l0, l1, l2, l3, l4, l5, l6, true, l8, true, l10, l11, l12, A, rfl, rfl, hb, hA, kA⟩
        | 10, _ =>
          obtain rfl : l10 = false := by simpa using hf
          clear hp ho'
          obtain rfl : l11 = false := by
            cases l11 with
            | false => rfl
            | true => exact absurd (kA rfl) (by decide)
          unfold wpOp
          simp only [pkIf_true]
          go_simp
          exact .inl ⟨l0, l1, l2, l3, l4, l5, l6, l7, l8, l9, true, false, l12, w'.heap.size, rfl, rfl, hb.alloc hb.size _, fun _ => ⟨hb.size, heap_alloc_new _ _⟩, fun h => (by cases h)⟩
        | 11, _ =>
          obtain rfl : l11 = false := by simpa using hf
          cases ho'
          obtain rfl : l8 = true := by simpa using hp ⟨8, .data⟩ (by simp) rfl
          obtain rfl : l10 = true := by simpa using hp ⟨10, .data⟩ (by simp) rfl
          clear hp
          obtain ⟨f1, f2⟩ := hA rfl
          simp only [Bool.false_eq_true, if_false] at f2
          have x0 := cellH f2 0
          have x1 := cellH f2 1
          have x2 := cellH f2 2
          have x3 := cellH f2 3
          have x4 := cellH f2 4
          have x5 := cellH f2 5
          have x6 := cellH f2 6
          have x7 := cellH f2 7
          have xf := freeH f2
          simp only [List.getElem?_toArray, List.getElem?_cons_zero, List.getElem?_cons_succ] at x0 x1 x2 x3 x4 x5 x6 x7
          obtain ⟨y1, y2⟩ := set8 f2 hb f1 (.int .i64 r0) (.int .i64 r1) (.int .i64 r2) (.int .i64 r3) (.int .i64 r4) (.int .i64 r5) (.int .i64 r6) (.int .i64 r7)
          unfold wpOp
          simp only [pkIf_true]
          go_simp
          exact .inl ⟨l0, l1, l2, l3, l4, l5, l6, l7, true, l9, true, true, l12, A, rfl, rfl, y2, fun _ => ⟨f1, y1⟩, fun _ => rfl⟩
        | 12, _ =>
          obtain rfl : l12 = false := by simpa using hf
          cases ho'
          obtain rfl : l9 = true := by simpa using hp ⟨9, .data⟩ (by simp) rfl
          clear hp
          unfold wpOp
          simp only [pkIf_true]
          go_simp
          exact .inl ⟨l0, l1, l2, l3, l4, l5, l6, l7, l8, true, l10, l11, true, A, rfl, rfl, hb, hA, kA⟩
    · obtain rfl : k = cs.length := by omega
      have HN2 : Hid (E = ckE cs ks ks.length) := Lib.hid (by rw [HCC2.out, if_pos hE0.out])
      have HBL := Lib.hid hB.out
      clear hB hk hkl zb hm
      go_wp2_with fail
      go_loopw [40] (fun i wr => ∃ (k : Nat), k ≤ ks.length ∧ i = .int .i64 k ∧ Hid (Below Z.heap.size Z wr) ∧ Hid (ckE cs ks k = 0)) (fun i _ => ks.length - (intOf i).toNat)
      case atStart => exact ⟨0, Nat.zero_le _, rfl, HBL, Lib.hid rfl⟩
      case round =>
        clear q0 q1
        obtain ⟨k, hk, rfl, hB, hF0⟩ := hrel
        obtain ⟨⟨q0, q1⟩, zb⟩ := HRD.out wr hB.out
        have hm := HM.out
        by_cases hkl : k < ks.length
        · obtain ⟨b, off, rfl, hb, hat⟩ := HC2.out k hkl
          obtain ⟨e0, e1, e2, e3, e4, e5, e6⟩ := hat.keep zb hb
          have hki : (k : Int) < ks.length := by omega
          have hk0 : (0 : Int) ≤ k := by omega
          have HKL := Lib.hid hkl
          have HES : Hid (ckE cs ks (k + 1) = if ceK cs (ks.getD k .nil) = 0 then (if (ckF (ks.take k) (ks.getD k .nil).id).isSome then 6 else 0) else ceK cs (ks.getD k .nil)) := Lib.hid (by
            show (if ckE cs ks k = 0 then _ else _) = _
            rw [if_pos hF0.out])
          obtain ⟨X, hX⟩ : ∃ X, ks.getD k .nil = X := ⟨_, rfl⟩
          rw [hX] at HES e0 e1 e2 e3 e4 e5 e6
          have HVC := Lib.hid (fun w' (h : Below Z.heap.size Z w') => checkError_any (.slice a1 cs.length c1) cs X w' (HV1.out.keep (HRD.out w' h).2) (by omega))
          have HTK : Hid (∀ w', Below Z.heap.size Z w' → Calls Tryz.prog 47 #[.slice (some ⟨b, off, none⟩) k c2, .int .i64 X.id] w' fun e w'' => e = .returned (.tuple #[((ckF (ks.take k) X.id).getD .nil).val, .bool (ckF (ks.take k) X.id).isSome]) ∧ Below w'.heap.size w' w'') := Lib.hid (fun w' h => checkOf_any _ _ X.id w' ((HV2.out.keep (HRD.out w' h).2).take k (by omega)) (by rw [List.length_take]; omega))
          obtain ⟨er, her⟩ : ∃ z, ceK cs X = z := ⟨_, rfl⟩
          obtain ⟨R, hR⟩ : ∃ z, ckF (ks.take k) X.id = z := ⟨_, rfl⟩
          rw [her] at HVC HES
          rw [hR] at HTK HES
          clear hX her hR hat hb zb
          obtain ⟨a0, a1', a2', a3, a4, a5, a6⟩ := X
          simp only at e0 e1 e2 e3 e4 e5 e6 HTK HVC
          have HBX := Lib.hid (hB.out.alloc hB.out.size (.cells #[.int .i64 a0, .int .i64 a1', .int .i64 a2', .int .i64 a3, .int .i64 a4, .int .i64 a5, .int .i64 a6] 67))
          have HQX : Hid ((wr.alloc (.cells #[.int .i64 a0, .int .i64 a1', .int .i64 a2', .int .i64 a3, .int .i64 a4, .int .i64 a5, .int .i64 a6] 67)).heap[wr.heap.size]? = some (.cells #[.int .i64 a0, .int .i64 a1', .int .i64 a2', .int .i64 a3, .int .i64 a4, .int .i64 a5, .int .i64 a6] 67 (0, 0))) := Lib.hid (heap_alloc_new _ _)
          obtain ⟨vb, hvb⟩ : ∃ z, wr.heap.size = z := ⟨_, rfl⟩
          have HSZ : Hid (Z.heap.size ≤ vb) := Lib.hid (by rw [← hvb]; exact hB.out.size)
          rw [hvb] at HQX
          obtain ⟨wx, hwx⟩ : ∃ X, wr.alloc (.cells #[.int .i64 a0, .int .i64 a1', .int .i64 a2', .int .i64 a3, .int .i64 a4, .int .i64 a5, .int .i64 a6] 67) = X := ⟨_, rfl⟩
          rw [hwx] at HBX HQX
          have HWX := Lib.hid hwx
          have p0 := (HRD.out wx HBX.out).1.1
          rw [← hwx] at p0
          clear hwx
          go_wp2_with fail
          rw [HWX.out]
          refine (HVC.out wx HBX.out).mono ?_
          rintro e w2 ⟨rfl, hb2⟩
          have HB2 := Lib.hid (HBX.out.trans (hb2.mono HBX.out.size))
          have HQ2 := Lib.hid ((hb2.block _ (Array.getElem?_eq_some_iff.1 HQX.out).1).trans HQX.out)
          clear hb2 hvb e0 e1 e2 e3 e4 e5 e6 q0 q1 p0
          by_cases h0 : er = 0
          case neg =>
            have h0' : (er != 0) = true := by simpa using h0
            have HES2 : Hid (ckE cs ks (k + 1) = er) := Lib.hid (by rw [HES.out, if_neg h0])
            have HN : Hid (E = er) := Lib.hid (by rw [HCK.out k (by trivial) hE0.out HKL.out (by rw [HES2.out]; exact h0), HES2.out])
            have HBE := Lib.hid (HRD.out w2 HB2.out).2
            clear h0
            go_wp2_with fail
            go_ret
            exact ⟨by rw [HN.out]; rfl, HBE.out⟩
          subst h0
          have HRB : Hid (∀ W', Below w2.heap.size w2 W' → W'.cell? ⟨w.heap.size, 1, none⟩ = some (.slice (some ⟨b, off, none⟩) ks.length c2) ∧ W'.cell? ⟨vb, 0, none⟩ = some (.int .i64 a0) ∧ Below Z.heap.size Z W') := Lib.hid (fun W' h => by
            have h1 := HB2.out.trans (h.mono HB2.out.size)
            have h2 := (h.block _ (Array.getElem?_eq_some_iff.1 HQ2.out).1).trans HQ2.out
            exact ⟨(HRD.out W' h1).1.2, cellH h2 0, h1⟩)
          have hki2 : (k : Int) ≤ (ks.length : Int) := by omega
          have hkc : k ≤ c2 := by
            rcases HV2.out with ⟨_, _, h, h2⟩ | ⟨_, _, c, h, hp, _⟩
            · have := HKL.out; rw [h2] at this; simp at this
            · cases h; have := HKL.out; omega
          have hkc2 : (k : Int) ≤ (c2 : Int) := by omega
          go_wp2_with fail
          have HNO : Hid (R.isSome = false → ckE cs ks (k + 1) = 0) := Lib.hid (fun h => by rw [HES.out, h]; simp)
          have HYES : Hid (R.isSome = true → E = 6) := Lib.hid (fun h => by
            have h2 : ckE cs ks (k + 1) = 6 := by rw [HES.out, h]; simp
            rw [HCK.out k (by trivial) hE0.out HKL.out (by rw [h2]; decide), h2])
          obtain ⟨⟨r0, r1, r2, r3, r4, r5, r6⟩, hrv⟩ : ∃ X, R.getD .nil = X := ⟨_, rfl⟩
          obtain ⟨rb, hrb⟩ : ∃ z, R.isSome = z := ⟨_, rfl⟩
          rw [hrv, hrb] at HTK
          have HTK2 := Lib.hid HTK.out
          rw [hrb] at HNO HYES
          clear hrv hrb
          refine wp_region_invn (by kernel_rfl) (ChI2 w2 w.heap.size vb b off ks.length c2 k a0 r0 r1 r2 r3 r4 r5 r6 rb _ _ _ _ _ _ _ _ _ _ _ _ _ _ _ _ _ _ _ _ _ _ _ _ _ _ _ _ _ _ _ _ _ _ _ _ _ _ _ _ _ _ _ _ _ _ _ _ _ _ _ _ _ _ _ _ _ _ _ _ _) ⟨false, false, false, false, false, false, false, false, false, false, false, false, false, 0, rfl, rfl, (Below.refl _ _).drew, by simp, by simp⟩ ?hend ?hstep
          case hend =>
            rintro listed a w' ⟨l0, l1, l2, l3, l4, l5, l6, l7, l8, l9, l10, l11, l12, A, rfl, rfl, hb, hA, kA⟩ hall
            have hal0 := ready_all (by kernel_rfl) rfl hall 13
            have hal : l0 = true ∧ l1 = true ∧ l2 = true ∧ l3 = true ∧ l4 = true ∧ l5 = true ∧ l6 = true ∧ l7 = true ∧ l8 = true ∧ l9 = true ∧ l10 = true ∧ l11 = true ∧ l12 = true := ⟨hal0 0 (by decide) (by simp), hal0 1 (by decide) (by simp), hal0 2 (by decide) (by simp), hal0 3 (by decide) (by simp), hal0 4 (by decide) (by simp), hal0 5 (by decide) (by simp), hal0 6 (by decide) (by simp), hal0 7 (by decide) (by simp), hal0 8 (by decide) (by simp), hal0 9 (by decide) (by simp), hal0 10 (by decide) (by simp), hal0 11 (by decide) (by simp), hal0 12 (by decide) (by simp)⟩
            obtain ⟨rfl, rfl, rfl, rfl, rfl, rfl, rfl, rfl, rfl, rfl, rfl, rfl, rfl⟩ := hal
            obtain ⟨gA, hA⟩ := hA rfl
            simp only [if_true] at hA
            simp only [pkIf_true, List.drop_succ_cons, List.drop_zero]
            clear hall hal0
            have HB3 := Lib.hid (HB2.out.trans (hb.mono HB2.out.size))
            clear hb hA gA
            cases rb
            · have HN2 := Lib.hid (HNO.out rfl)
              go_wp2_with fail
              go_roundw
              case rel => exact ⟨k + 1, HKL.out, by go_num, HB3, HN2⟩
              case measure => have := HKL.out; simp [intOf]; omega
            · have HN2 := Lib.hid (HYES.out rfl)
              have HBE := Lib.hid (HRD.out _ HB3.out).2
              go_wp2_with fail
              go_ret
              exact ⟨by rw [HN2.out]; rfl, HBE.out⟩
          case hstep =>
            rintro listed a w' i ⟨l0, l1, l2, l3, l4, l5, l6, l7, l8, l9, l10, l11, l12, A, rfl, rfl, hb, hA, kA⟩ hi
            obtain ⟨hf, o', ho', hp⟩ := mem_ready.1 hi
            have hin : i < 13 := (Array.getElem?_eq_some_iff.1 ho').1
            clear hi
            obtain ⟨q7, q8, q9⟩ := HRB.out w' hb
            match i, hin with
            | 0, _ =>
              obtain rfl : l0 = false := by simpa using hf
              clear hp ho'
              unfold wpOp
              simp only [pkIf_true]
              go_simp
              exact .inl ⟨true, l1, l2, l3, l4, l5, l6, l7, l8, l9, l10, l11, l12, A, rfl, rfl, hb, hA, kA⟩
            | 1, _ =>
              obtain rfl : l1 = false := by simpa using hf
              cases ho'
              obtain rfl : l0 = true := by simpa using hp ⟨0, .data⟩ (by simp) rfl
              clear hp
              unfold wpOp
              simp only [pkIf_true]
              go_simp
              exact .inl ⟨true, true, l2, l3, l4, l5, l6, l7, l8, l9, l10, l11, l12, A, rfl, rfl, hb, hA, kA⟩
            | 2, _ =>
              obtain rfl : l2 = false := by simpa using hf
              clear hp ho'
              unfold wpOp
              simp only [pkIf_true]
              go_simp
              exact .inl ⟨l0, l1, true, l3, l4, l5, l6, l7, l8, l9, l10, l11, l12, A, rfl, rfl, hb, hA, kA⟩
            | 3, _ =>
              obtain rfl : l3 = false := by simpa using hf
              cases ho'
              obtain rfl : l1 = true := by simpa using hp ⟨1, .data⟩ (by simp) rfl
              obtain rfl : l2 = true := by simpa using hp ⟨2, .data⟩ (by simp) rfl
              clear hp
              unfold wpOp
              simp only [pkIf_true]
              go_simp
              exact .inl ⟨l0, true, true, true, l4, l5, l6, l7, l8, l9, l10, l11, l12, A, rfl, rfl, hb, hA, kA⟩
            | 4, _ =>
              obtain rfl : l4 = false := by simpa using hf
              clear hp ho'
              unfold wpOp
              simp only [pkIf_true]
              go_simp
              exact .inl ⟨l0, l1, l2, l3, true, l5, l6, l7, l8, l9, l10, l11, l12, A, rfl, rfl, hb, hA, kA⟩
            | 5, _ =>
              obtain rfl : l5 = false := by simpa using hf
              cases ho'
              obtain rfl : l4 = true := by simpa using hp ⟨4, .data⟩ (by simp) rfl
              clear hp
              unfold wpOp
              simp only [pkIf_true]
              go_simp
              exact .inl ⟨l0, l1, l2, l3, true, true, l6, l7, l8, l9, l10, l11, l12, A, rfl, rfl, hb, hA, kA⟩
            | 6, _ =>
              obtain rfl : l6 = false := by simpa using hf
              cases ho'
              obtain rfl : l3 = true := by simpa using hp ⟨3, .data⟩ (by simp) rfl
              obtain rfl : l5 = true := by simpa using hp ⟨5, .data⟩ (by simp) rfl
              clear hp
              unfold wpOp
              simp only [pkIf_true]
              go_simp
              refine .inl ((HTK2.out w' q9).mono ?_)
              rintro e w9 ⟨rfl, hb9⟩
              exact ⟨l0, l1, l2, true, l4, true, true, l7, l8, l9, l10, l11, l12, A, rfl, rfl, hb.trans (hb9.mono hb.size), fun h => ⟨(hA h).1, (hb9.block _ (Array.getElem?_eq_some_iff.1 (hA h).2).1).trans (hA h).2⟩, kA⟩
            | 7, _ =>
              obtain rfl : l7 = false := by simpa using hf
              cases ho'
              obtain rfl : l6 = true := by simpa using hp ⟨6, .data⟩ (by simp) rfl
              clear hp
              unfold wpOp
              simp only [pkIf_true]
              go_simp
              exact .inl ⟨l0, l1, l2, l3, l4, l5, true, true, l8, l9, l10, l11, l12, A, rfl, rfl, hb, hA, kA⟩
            | 8, _ =>
              obtain rfl : l8 = false := by simpa using hf
              cases ho'
              obtain rfl : l7 = true := by simpa using hp ⟨7, .data⟩ (by simp) rfl
              clear hp
              unfold wpOp
              simp only [pkIf_true]
              go_simp
              exact .inl ⟨l0, l1, l2, l3, l4, l5, l6, true, true, l9, l10, l11, l12, A, rfl, rfl, hb, hA, kA⟩
            | 9, _ =>
              obtain rfl : l9 = false := by simpa using hf
              cases ho'
              obtain rfl : l7 = true := by simpa using hp ⟨7, .data⟩ (by simp) rfl
              clear hp
              unfold wpOp
              simp only [pkIf_true]
              go_simp
              exact .inl ⟨l0, l1, l2, l3, l4, l5, l6, true, l8, true, l10, l11, l12, A, rfl, rfl, hb, hA, kA⟩
            | 10, _ =>
              obtain rfl : l10 = false := by simpa using hf
              clear hp ho'
              obtain rfl : l11 = false := by
                cases l11 with
                | false => rfl
                | true => exact absurd (kA rfl) (by decide)
              unfold wpOp
              simp only [pkIf_true]
              go_simp
              exact .inl ⟨l0, l1, l2, l3, l4, l5, l6, l7, l8, l9, true, false, l12, w'.heap.size, rfl, rfl, hb.alloc hb.size _, fun _ => ⟨hb.size, heap_alloc_new _ _⟩, fun h => (by cases h)⟩
            | 11, _ =>
              obtain rfl : l11 = false := by simpa using hf
              cases ho'
              obtain rfl : l8 = true := by simpa using hp ⟨8, .data⟩ (by simp) rfl
              obtain rfl : l10 = true := by simpa using hp ⟨10, .data⟩ (by simp) rfl
              clear hp
              obtain ⟨f1, f2⟩ := hA rfl
              simp only [Bool.false_eq_true, if_false] at f2
              have x0 := cellH f2 0
              have x1 := cellH f2 1
              have x2 := cellH f2 2
              have x3 := cellH f2 3
              have x4 := cellH f2 4
              have x5 := cellH f2 5
              have x6 := cellH f2 6
              have xf := freeH f2
              simp only [List.getElem?_toArray, List.getElem?_cons_zero, List.getElem?_cons_succ] at x0 x1 x2 x3 x4 x5 x6
              obtain ⟨y1, y2⟩ := set7 f2 hb f1 (.int .i64 r0) (.int .i64 r1) (.int .i64 r2) (.int .i64 r3) (.int .i64 r4) (.int .i64 r5) (.int .i64 r6)
              unfold wpOp
              simp only [pkIf_true]
              go_simp
              exact .inl ⟨l0, l1, l2, l3, l4, l5, l6, l7, true, l9, true, true, l12, A, rfl, rfl, y2, fun _ => ⟨f1, y1⟩, fun _ => rfl⟩
            | 12, _ =>
              obtain rfl : l12 = false := by simpa using hf
              cases ho'
              obtain rfl : l9 = true := by simpa using hp ⟨9, .data⟩ (by simp) rfl
              clear hp
              unfold wpOp
              simp only [pkIf_true]
              go_simp
              exact .inl ⟨l0, l1, l2, l3, l4, l5, l6, l7, l8, true, l10, l11, true, A, rfl, rfl, hb, hA, kA⟩
        · obtain rfl : k = ks.length := by omega
          have HN3 : Hid (E = 0) := Lib.hid (by rw [HN2.out, hF0.out])
          have HBE := Lib.hid zb
          clear zb
          go_wp2_with fail
          go_ret
          exact ⟨by rw [HN3.out]; rfl, HBE.out⟩
end Go.Proofs.YtebdboacmeafaaaGreat
