/- Package firetowerref05: Alone. -/
import Derived.Test.YtpaihnjgpookjaaCEA
import Derived.Test.YtpaihnjgpookjaaCE9
import Derived.Test.YtpaihnjgpookjaaCDC
import Derived.Test.YtpaihnjgpookjaaCCA
set_option linter.unusedVariables false
set_option linter.unusedSimpArgs false
namespace Go.Proofs.Ytpaihnjgpookjaa
open Go Go.RowKit

/-- What Alone answers, by its parts. -/
def alnT (cs : List Ci) (ks : List Ck) (id : Int) : Int × Int × Int :=
  if ccE cs ks = 0 then
    (match ckF ks id with
    | none => (0, 0, 5)
    | some k => if alB ((ciF cs k.c).getD .nil).x ((ciF cs k.c).getD .nil).y k = true then (alL ((ciF cs k.c).getD .nil).x ((ciF cs k.c).getD .nil).y k, alH ((ciF cs k.c).getD .nil).x ((ciF cs k.c).getD .nil).y k, 0) else (0, 0, 9))
  else (0, 0, ccE cs ks)
theorem alnV_eq (cs : List Ci) (ks : List Ck) (id : Int) : alnV cs ks id = .tuple #[.agg #[.int .i64 (alnT cs ks id).1, .int .i64 (alnT cs ks id).2.1], .int .i64 (alnT cs ks id).2.2] := by
  unfold alnV alnT
  by_cases h : ccE cs ks = 0
  · rw [if_pos h, if_pos h]
    cases ckF ks id with
    | none => rfl
    | some k => simp only; split <;> rfl
  · rw [if_neg h, if_neg h]
theorem ck_br {cs : List Ci} {ks : List Ck} (ho : CcOk cs ks) {k : Ck} {z : Ci} (h : CkOk cs k z) : brB z.x z.y k.x k.y = true := by
  have hz := (Ci.ok_iff.1 (ciF_ok ho h.of)).2.1
  have hne := h.ne
  unfold brB
  rw [om_iff.2 hz, om_iff.2 h.at']
  rw [show (z.x == k.x && z.y == k.y) = (k.x == z.x && k.y == z.y) by rw [BEq.comm (a := z.x), BEq.comm (a := z.y)], hne]
  rfl
theorem info_kn3 : (Try.prog.info? 54).map (·.size) = some 3 := by kernel_rfl
/-- The worlds and frames in a region. -/
def AlnInv (W1 : World) (wz b off n1 c1 n2 c2 k : Nat) (a1 : Option Addr) (id x0 x1 x2 x3 x4 x5 x6 lo hi : Int) (no : Bool) (u0 u3 u5 u7 u8 u9 u10 u11 u12 u13 u14 u15 u16 u17 u18 u19 u20 u21 u22 u23 u24 u25 u26 u27 u28 u29 u30 u31 u32 u33 u34 u35 u36 u37 u38 u39 u40 u41 u42 : Value) (listed : Array Bool) (a : Act) (w' : World) : Prop :=
  ∃ (l0 l1 l2 l3 l4 l5 l6 l7 l8 : Bool) (A : Nat), listed = #[l0, l1, l2, l3, l4, l5, l6, l7, l8] ∧ a = { tmps := #[u0, .int .i64 id, .pointer (some ⟨wz, 0, none⟩), u3, .pointer (some ⟨wz + 1, 0, none⟩), u5, .int .i64 (k : Nat), pkIf l7 (.pointer (some ⟨A, 0, none⟩)) (u7), u8, u9, u10, u11, u12, u13, u14, u15, u16, u17, u18, u19, u20, u21, u22, u23, u24, u25, u26, u27, u28, pkIf l0 (.agg #[.slice a1 n1 c1, .slice (some ⟨b, off, none⟩) n2 c2]) (u29), pkIf l1 (.pointer (some ⟨wz, 1, none⟩)) (u30), pkIf l2 (.slice (some ⟨b, off, none⟩) n2 c2) (u31), pkIf l3 (.int .i64 (k : Nat)) (u32), pkIf l4 (.pointer (some ⟨b, off + k * 7, none⟩)) (u33), pkIf l5 (.agg #[.int .i64 x0, .int .i64 x1, .int .i64 x2, .int .i64 x3, .int .i64 x4, .int .i64 x5, .int .i64 x6]) (u34), pkIf l6 (.agg #[.int .i64 lo, .int .i64 hi, .bool no]) (u35), u36, u37, u38, u39, u40, u41, u42], defers := [] } ∧ Below W1.heap.size W1 w' ∧ (l7 = true → W1.heap.size ≤ A ∧ w'.heap[A]? = some (.cells (if l8 = true then #[.int .i64 lo, .int .i64 hi, .bool no] else #[.int .i64 0, .int .i64 0, .bool false]) 104 (0, 0))) ∧ (l8 = true → l7 = true)
set_option maxRecDepth 100000 in
set_option maxHeartbeats 8000000 in
theorem pAlone_any (v1 v2 : Value) (cs : List Ci) (ks : List Ck) (id : Int) (w : World) (hv1 : CiRow w v1 cs) (hv2 : CkRow w v2 ks) (hl1 : cs.length ≤ 9223372036854775807) (hl2 : ks.length ≤ 9223372036854775807) :
    Calls Try.prog 22 #[.agg #[v1, v2], .int .i64 id] w fun e w' => e = .returned (.agg #[.int .i64 (alnT cs ks id).1, .int .i64 (alnT cs ks id).2.1, .int .i64 (alnT cs ks id).2.2]) ∧ Below w.heap.size w w' := by
  obtain ⟨a1, c1, rfl, hc1⟩ := hv1.form
  obtain ⟨a2, c2, rfl, hc2⟩ := hv2.form
  have HC2 := Lib.hid hc2
  have HV1 := Lib.hid hv1
  have HV2 := Lib.hid hv2
  have HCH := Lib.hid (fun w' (h : Below w.heap.size w w') => pCheck_any (.slice a1 cs.length c1) (.slice a2 ks.length c2) cs ks w' (hv1.keep h) (hv2.keep h) hl1 hl2)
  have HOK := Lib.hid (ccE_ok (cs := cs) (ks := ks))
  have HHIT := Lib.hid (fun k hk => ckF_hit (l := ks) (id := id) (k := k) hk)
  have HMISS := Lib.hid (ckF_miss (l := ks) (id := id))
  obtain ⟨⟨TL, TH, TE⟩, hT⟩ : ∃ T, alnT cs ks id = T := ⟨_, rfl⟩
  rw [hT]
  have HT1 : Hid (ccE cs ks ≠ 0 → TL = 0 ∧ TH = 0 ∧ TE = ccE cs ks) := Lib.hid (fun h => by
    unfold alnT at hT; rw [if_neg h] at hT; cases hT; exact ⟨rfl, rfl, rfl⟩)
  have HT2 : Hid (ccE cs ks = 0 → ckF ks id = none → TL = 0 ∧ TH = 0 ∧ TE = 5) := Lib.hid (fun h h2 => by
    unfold alnT at hT; rw [if_pos h, h2] at hT; cases hT; exact ⟨rfl, rfl, rfl⟩)
  have HT3 : Hid (ccE cs ks = 0 → ∀ k z, ckF ks id = some k → ciF cs k.c = some z → (alB z.x z.y k = true → TL = alL z.x z.y k ∧ TH = alH z.x z.y k ∧ TE = 0) ∧ (alB z.x z.y k = false → TL = 0 ∧ TH = 0 ∧ TE = 9)) := Lib.hid (fun h k z h2 h3 => by
    unfold alnT at hT; rw [if_pos h, h2] at hT; simp only [h3, Option.getD_some] at hT
    refine ⟨fun hb => ?_, fun hb => ?_⟩
    · rw [if_pos hb] at hT; cases hT; exact ⟨rfl, rfl, rfl⟩
    · rw [if_neg (by rw [hb]; simp)] at hT; cases hT; exact ⟨rfl, rfl, rfl⟩)
  obtain ⟨E, hE⟩ : ∃ z, ccE cs ks = z := ⟨_, rfl⟩
  rw [hE] at HT1 HT2 HT3 HCH HOK
  clear hc1 hc2 hv1 hv2 hE hT
  simp only
  obtain ⟨x0, x1, xlt, xb⟩ := two_cells w #[.slice a1 cs.length c1, .slice a2 ks.length c2] #[.int .i64 0, .int .i64 0, .int .i64 0] 46 54 (Below.refl _ _)
  have HNc : Hid (((w.alloc (.cells #[.slice a1 cs.length c1, .slice a2 ks.length c2] 46)).alloc (.cells #[.int .i64 0, .int .i64 0, .int .i64 0] 54)).heap[w.heap.size]? = some (.cells #[.slice a1 cs.length c1, .slice a2 ks.length c2] 46 (0, 0))) := Lib.hid x0
  have HNr : Hid (((w.alloc (.cells #[.slice a1 cs.length c1, .slice a2 ks.length c2] 46)).alloc (.cells #[.int .i64 0, .int .i64 0, .int .i64 0] 54)).heap[w.heap.size + 1]? = some (.cells #[.int .i64 0, .int .i64 0, .int .i64 0] 54 (0, 0))) := Lib.hid x1
  have HB : Hid (Below w.heap.size w ((w.alloc (.cells #[.slice a1 cs.length c1, .slice a2 ks.length c2] 46)).alloc (.cells #[.int .i64 0, .int .i64 0, .int .i64 0] 54))) := Lib.hid xb
  obtain ⟨Z, hZ⟩ : ∃ Z, ((w.alloc (.cells #[.slice a1 cs.length c1, .slice a2 ks.length c2] 46)).alloc (.cells #[.int .i64 0, .int .i64 0, .int .i64 0] 54)) = Z := ⟨_, rfl⟩
  rw [hZ] at HB HNc HNr
  have HZ := Lib.hid hZ
  clear hZ xlt xb x0 x1
  go_enter Try.func22, Try.ntmps22
  go_wp2_with fail
  rw [HZ.out]
  refine (HCH.out _ HB.out).mono ?_
  rintro e w1 ⟨rfl, hb⟩
  replace HB := Lib.hid (HB.out.trans (hb.mono HB.out.size))
  replace HNc := Lib.hid ((hb.block _ (Array.getElem?_eq_some_iff.1 HNc.out).1).trans HNc.out)
  replace HNr := Lib.hid ((hb.block _ (Array.getElem?_eq_some_iff.1 HNr.out).1).trans HNr.out)
  clear hb
  by_cases hE0 : E = 0
  case neg =>
    have HN := Lib.hid (HT1.out hE0)
    have gE : (E == 0) = false := by simpa using hE0
    have zr0 := cellH HNr.out 0
    have zr1 := cellH HNr.out 1
    have zr2 := cellH HNr.out 2
    simp only [List.getElem?_toArray, List.getElem?_cons_zero, List.getElem?_cons_succ] at zr0 zr1 zr2
    have zfr := freeH HNr.out
    go_wp2_with fail
    obtain ⟨z1, z2⟩ := set3 HNr.out HB.out (by omega) (.int .i64 0) (.int .i64 0) (.int .i64 E)
    refine bodyPost_ret (results_cell_row Try.results22 _ _ (w.heap.size + 1) 54 _ (0, 0) _ rfl z1 Try.underlying54 rfl info_kn3) rfl ?_
    exact ⟨by rw [HN.out.1, HN.out.2.1, HN.out.2.2], z2⟩
  subst hE0
  have HCO := Lib.hid (HOK.out rfl)
  have HT4 := Lib.hid (HT3.out rfl)
  have HT5 := Lib.hid (HT2.out rfl)
  clear HT1 HT2 HT3 HOK
  go_wp2_with fail
  go_loopw [6] (fun i wr => ∃ (k : Nat), k ≤ ks.length ∧ i = .int .i64 k ∧ Hid (∀ j, j < k → ((ks.getD j .nil).id == id) = false) ∧ Hid (Below w.heap.size w wr) ∧ Hid (wr.heap[w.heap.size]? = some (.cells #[.slice a1 cs.length c1, .slice a2 ks.length c2] 46 (0, 0))) ∧ Hid (wr.heap[w.heap.size + 1]? = some (.cells #[.int .i64 0, .int .i64 0, .int .i64 0] 54 (0, 0)))) (fun i _ => ks.length - (intOf i).toNat)
  case atStart => exact ⟨0, Nat.zero_le _, rfl, Lib.hid (fun j hj => by omega), HB, HNc, HNr⟩
  case round =>
    clear HB HNc HNr
    obtain ⟨k, hk, rfl, hN, HB, HNc, HNr⟩ := hrel
    have zc0 := cellH HNc.out 0
    have zc1 := cellH HNc.out 1
    simp only [List.getElem?_toArray, List.getElem?_cons_zero, List.getElem?_cons_succ] at zc0 zc1
    have hm := HCO.out.m
    by_cases hkl : k < ks.length
    · obtain ⟨b, off, rfl, hb, hat⟩ := HC2.out k hkl
      obtain ⟨e0, e1, e2, e3, e4, e5, e6⟩ := hat.keep HB.out hb
      have hki : (k : Int) < ks.length := by omega
      have hk0 : (0 : Int) ≤ k := by omega
      have HKL := Lib.hid hkl
      have HBL := Lib.hid hb
      have HH := Lib.hid (HHIT.out k hkl hN.out)
      have HNX : Hid (((ks.getD k .nil).id == id) = false → ∀ j, j < k + 1 → ((ks.getD j .nil).id == id) = false) := Lib.hid (fun h j hj => by
        by_cases e : j = k
        · subst e; exact h
        · exact hN.out j (by omega))
      obtain ⟨z, hz⟩ := (HCO.out.ck k hkl).1
      have HZZ := Lib.hid hz
      obtain ⟨X, hX⟩ : ∃ X, ks.getD k .nil = X := ⟨_, rfl⟩
      rw [hX] at HH HNX e0 e1 e2 e3 e4 e5 e6 HZZ hat
      have HAT := Lib.hid hat
      obtain ⟨x0, x1, x2, x3, x4, x5, x6⟩ := X
      simp only at e0 e1 e2 e3 e4 e5 e6 HH HNX
      clear hat hb hX hz
      cases hE : (x0 == id)
      · have HN2 := Lib.hid (HNX.out hE)
        go_wp2_with fail
        go_roundw
        case rel => exact ⟨k + 1, HKL.out, by go_num, HN2, HB, HNc, HNr⟩
        case measure => have := HKL.out; simp [intOf]; omega
      have HF := Lib.hid (HH.out hE)
      have HT6 := Lib.hid (HT4.out _ z HF.out HZZ.out.of)
      have HPA := Lib.hid (fun w' (h : Below w.heap.size w w') => palone_any (.slice a1 cs.length c1) (.slice (some ⟨b, off, none⟩) ks.length c2) cs ⟨x0, x1, x2, x3, x4, x5, x6⟩ z w' (HV1.out.keep h) (by have := HCO.out.n; omega) HZZ.out.of (ck_br HCO.out HZZ.out) HZZ.out.s HZZ.out.sl)
      obtain ⟨L, hL⟩ : ∃ q, alL z.x z.y ⟨x0, x1, x2, x3, x4, x5, x6⟩ = q := ⟨_, rfl⟩
      obtain ⟨HH2, hHH⟩ : ∃ q, alH z.x z.y ⟨x0, x1, x2, x3, x4, x5, x6⟩ = q := ⟨_, rfl⟩
      obtain ⟨AB, hAB⟩ : ∃ q, alB z.x z.y ⟨x0, x1, x2, x3, x4, x5, x6⟩ = q := ⟨_, rfl⟩
      rw [hL, hHH, hAB] at HT6 HPA
      obtain ⟨lo, hlo⟩ : ∃ q, (if AB = true then L else 0) = q := ⟨_, rfl⟩
      obtain ⟨hi, hhi⟩ : ∃ q, (if AB = true then HH2 else 0) = q := ⟨_, rfl⟩
      rw [hlo, hhi] at HPA
      have HLO : Hid (TL = lo ∧ TH = hi ∧ TE = bif AB then 0 else 9) := Lib.hid (by
        rw [← hlo, ← hhi]
        cases AB
        · exact HT6.out.2 rfl
        · exact HT6.out.1 rfl)
      obtain ⟨no, hno⟩ : ∃ q, (!AB) = q := ⟨_, rfl⟩
      rw [hno] at HPA
      have HNO : Hid (TE = bif no then 9 else 0) := Lib.hid (by rw [HLO.out.2.2, ← hno]; cases AB <;> rfl)
      have HLZ : Hid (no = true → lo = 0 ∧ hi = 0) := Lib.hid (fun h => by
        rw [← hno] at h
        obtain rfl : AB = false := (by simpa using h)
        exact ⟨hlo.symm, hhi.symm⟩)
      clear hL hHH hAB hlo hhi hno
      have HRD : Hid (∀ W', Below wr.heap.size wr W' → W'.cell? ⟨w.heap.size, 0, none⟩ = some (.slice a1 cs.length c1) ∧ W'.cell? ⟨w.heap.size, 1, none⟩ = some (.slice (some ⟨b, off, none⟩) ks.length c2) ∧ W'.cell? ⟨w.heap.size + 1, 0, none⟩ = some (.int .i64 0) ∧ W'.cell? ⟨w.heap.size + 1, 1, none⟩ = some (.int .i64 0) ∧ W'.cell? ⟨w.heap.size + 1, 2, none⟩ = some (.int .i64 0) ∧ CkAt W' b off k ⟨x0, x1, x2, x3, x4, x5, x6⟩) := Lib.hid (fun W' h => ⟨cellH ((h.block _ (Array.getElem?_eq_some_iff.1 HNc.out).1).trans HNc.out) 0, cellH ((h.block _ (Array.getElem?_eq_some_iff.1 HNc.out).1).trans HNc.out) 1, cellH ((h.block _ (Array.getElem?_eq_some_iff.1 HNr.out).1).trans HNr.out) 0, cellH ((h.block _ (Array.getElem?_eq_some_iff.1 HNr.out).1).trans HNr.out) 1, cellH ((h.block _ (Array.getElem?_eq_some_iff.1 HNr.out).1).trans HNr.out) 2, HAT.out.keep (HB.out.trans (h.mono HB.out.size)) HBL.out⟩)
      have HAL : Hid (∀ w', Below wr.heap.size wr w' → Calls Try.prog 52 #[.agg #[.slice a1 cs.length c1, .slice (some ⟨b, off, none⟩) ks.length c2], .agg #[.int .i64 x0, .int .i64 x1, .int .i64 x2, .int .i64 x3, .int .i64 x4, .int .i64 x5, .int .i64 x6]] w' fun e w'' => e = .returned (.agg #[.int .i64 lo, .int .i64 hi, .bool no]) ∧ Below w'.heap.size w' w'') := Lib.hid (fun w' h => HPA.out w' (HB.out.trans (h.mono HB.out.size)))
      go_wp2_with fail
      clear zc0 zc1
      clear e0 e1 e2 e3 e4 e5 e6
      refine wp_region_invn (by kernel_rfl) (AlnInv wr w.heap.size b off cs.length c1 ks.length c2 k a1 id x0 x1 x2 x3 x4 x5 x6 lo hi no _ _ _ _ _ _ _ _ _ _ _ _ _ _ _ _ _ _ _ _ _ _ _ _ _ _ _ _ _ _ _ _ _ _ _ _ _ _ _) ⟨false, false, false, false, false, false, false, false, false, 0, rfl, rfl, (Below.refl _ _).drew, (fun h => by cases h), (fun h => by cases h)⟩ ?hend ?hstep
      case hstep =>
        rintro listed a w' i ⟨l0, l1, l2, l3, l4, l5, l6, l7, l8, A, rfl, rfl, hb, hA, kA⟩ hi
        obtain ⟨hf, o', ho', hp⟩ := mem_ready.1 hi
        have hin : i < 9 := (Array.getElem?_eq_some_iff.1 ho').1
        clear hi
        obtain ⟨zc0, zc1, zr0, zr1, zr2, ⟨e0, e1, e2, e3, e4, e5, e6⟩⟩ := HRD.out w' hb
        match i, hin with
        | 0, _ =>
          obtain rfl : l0 = false := by simpa using hf
          clear hp ho'
          unfold wpOp
          simp only [pkIf_true]
          go_simp
          exact .inl ⟨true, l1, l2, l3, l4, l5, l6, l7, l8, A, rfl, rfl, hb, hA, kA⟩
        | 1, _ =>
          obtain rfl : l1 = false := by simpa using hf
          clear hp ho'
          unfold wpOp
          simp only [pkIf_true]
          go_simp
          exact .inl ⟨l0, true, l2, l3, l4, l5, l6, l7, l8, A, rfl, rfl, hb, hA, kA⟩
        | 2, _ =>
          obtain rfl : l2 = false := by simpa using hf
          cases ho'
          obtain rfl : l1 = true := by simpa using hp ⟨1, .data⟩ (by simp) rfl
          clear hp
          unfold wpOp
          simp only [pkIf_true]
          go_simp
          exact .inl ⟨l0, true, true, l3, l4, l5, l6, l7, l8, A, rfl, rfl, hb, hA, kA⟩
        | 3, _ =>
          obtain rfl : l3 = false := by simpa using hf
          clear hp ho'
          unfold wpOp
          simp only [pkIf_true]
          go_simp
          exact .inl ⟨l0, l1, l2, true, l4, l5, l6, l7, l8, A, rfl, rfl, hb, hA, kA⟩
        | 4, _ =>
          obtain rfl : l4 = false := by simpa using hf
          cases ho'
          obtain rfl : l2 = true := by simpa using hp ⟨2, .data⟩ (by simp) rfl
          obtain rfl : l3 = true := by simpa using hp ⟨3, .data⟩ (by simp) rfl
          clear hp
          unfold wpOp
          simp only [pkIf_true]
          go_simp
          exact .inl ⟨l0, l1, true, true, true, l5, l6, l7, l8, A, rfl, rfl, hb, hA, kA⟩
        | 5, _ =>
          obtain rfl : l5 = false := by simpa using hf
          cases ho'
          obtain rfl : l4 = true := by simpa using hp ⟨4, .data⟩ (by simp) rfl
          clear hp
          unfold wpOp
          simp only [pkIf_true]
          go_simp
          exact .inl ⟨l0, l1, l2, l3, true, true, l6, l7, l8, A, rfl, rfl, hb, hA, kA⟩
        | 6, _ =>
          obtain rfl : l6 = false := by simpa using hf
          cases ho'
          obtain rfl : l0 = true := by simpa using hp ⟨0, .data⟩ (by simp) rfl
          obtain rfl : l5 = true := by simpa using hp ⟨5, .data⟩ (by simp) rfl
          clear hp
          unfold wpOp
          simp only [pkIf_true]
          go_simp
          refine .inl ((HAL.out w' hb).mono ?_)
          rintro e w9 ⟨rfl, hb9⟩
          exact ⟨true, l1, l2, l3, l4, true, true, l7, l8, A, rfl, rfl, hb.trans (hb9.mono hb.size), (fun h => ⟨(hA h).1, (hb9.block _ (Array.getElem?_eq_some_iff.1 (hA h).2).1).trans (hA h).2⟩), kA⟩
        | 7, _ =>
          obtain rfl : l7 = false := by simpa using hf
          obtain rfl : l8 = false := by
            cases l8 with
            | false => rfl
            | true => exact absurd (kA rfl) (by decide)
          clear hp ho'
          unfold wpOp
          simp only [pkIf_true]
          go_simp
          exact .inl ⟨l0, l1, l2, l3, l4, l5, l6, true, false, w'.heap.size, rfl, rfl, hb.alloc hb.size _, (fun _ => ⟨hb.size, heap_alloc_new _ _⟩), (fun h => by cases h)⟩
        | 8, _ =>
          obtain rfl : l8 = false := by simpa using hf
          cases ho'
          obtain rfl : l6 = true := by simpa using hp ⟨6, .data⟩ (by simp) rfl
          obtain rfl : l7 = true := by simpa using hp ⟨7, .data⟩ (by simp) rfl
          clear hp
          obtain ⟨f1, f2⟩ := hA rfl
          simp only [Bool.false_eq_true, if_false] at f2
          have x0 := cellH f2 0
          have x1 := cellH f2 1
          have x2 := cellH f2 2
          have xf := freeH f2
          simp only [List.getElem?_toArray, List.getElem?_cons_zero, List.getElem?_cons_succ] at x0 x1 x2
          have s0 := setS ⟨f2, hb⟩ f1 0 (.int .i64 lo)
          have s1 := setS s0 f1 1 (.int .i64 hi)
          have s2 := setS s1 f1 2 (.bool no)
          simp only [List.setIfInBounds_toArray, List.set_cons_zero, List.set_cons_succ] at s2
          unfold wpOp
          simp only [pkIf_true]
          go_simp
          exact .inl ⟨l0, l1, l2, l3, l4, l5, true, true, true, A, rfl, rfl, s2.2, (fun _ => ⟨f1, s2.1⟩), (fun _ => rfl)⟩
      case hend =>
        rintro listed a w2 ⟨l0, l1, l2, l3, l4, l5, l6, l7, l8, A, rfl, rfl, hb, hA, kA⟩ hall
        have hal0 := ready_all (by kernel_rfl) rfl hall 9
        have hal : l0 = true ∧ l1 = true ∧ l2 = true ∧ l3 = true ∧ l4 = true ∧ l5 = true ∧ l6 = true ∧ l7 = true ∧ l8 = true := ⟨hal0 0 (by decide) (by simp), hal0 1 (by decide) (by simp), hal0 2 (by decide) (by simp), hal0 3 (by decide) (by simp), hal0 4 (by decide) (by simp), hal0 5 (by decide) (by simp), hal0 6 (by decide) (by simp), hal0 7 (by decide) (by simp), hal0 8 (by decide) (by simp)⟩
        obtain ⟨rfl, rfl, rfl, rfl, rfl, rfl, rfl, rfl, rfl⟩ := hal
        obtain ⟨gA, hA⟩ := hA rfl
        simp only [if_true] at hA
        clear kA
        simp only [pkIf_true, List.drop_succ_cons, List.drop_zero]
        clear hall hal0
        have HSA := Lib.hid (Nat.le_trans HB.out.size gA)
        have HA := Lib.hid hA
        clear hA gA
        replace HB := Lib.hid (HB.out.trans (hb.mono HB.out.size))
        replace HNc := Lib.hid ((hb.block _ (Array.getElem?_eq_some_iff.1 HNc.out).1).trans HNc.out)
        replace HNr := Lib.hid ((hb.block _ (Array.getElem?_eq_some_iff.1 HNr.out).1).trans HNr.out)
        clear hb
        have HNl := HA
        have HSl := HSA
        have zr0 := cellH HNr.out 0
        have zr1 := cellH HNr.out 1
        have zr2 := cellH HNr.out 2
        have zl0 := cellH HNl.out 0
        have zl1 := cellH HNl.out 1
        have zl2 := cellH HNl.out 2
        simp only [List.getElem?_toArray, List.getElem?_cons_zero, List.getElem?_cons_succ] at zr0 zr1 zr2 zl0 zl1 zl2
        have zfr := freeH HNr.out
        cases no
        · go_wp2_with fail
          obtain ⟨z1, z2⟩ := set3 HNr.out HB.out (by omega) (.int .i64 lo) (.int .i64 hi) (.int .i64 0)
          refine bodyPost_ret (results_cell_row Try.results22 _ _ (w.heap.size + 1) 54 _ (0, 0) _ rfl z1 Try.underlying54 rfl info_kn3) rfl ?_
          exact ⟨by rw [HLO.out.1, HLO.out.2.1, HNO.out]; rfl, z2⟩
        · go_wp2_with fail
          obtain ⟨z1, z2⟩ := set3 HNr.out HB.out (by omega) (.int .i64 0) (.int .i64 0) (.int .i64 9)
          refine bodyPost_ret (results_cell_row Try.results22 _ _ (w.heap.size + 1) 54 _ (0, 0) _ rfl z1 Try.underlying54 rfl info_kn3) rfl ?_
          exact ⟨by rw [HLO.out.1, HLO.out.2.1, HNO.out, (HLZ.out (by trivial)).1, (HLZ.out (by trivial)).2]; rfl, z2⟩
    · obtain rfl : k = ks.length := by omega
      have HN := Lib.hid (HT5.out (HMISS.out hN.out))
      have zr0_4 := cellH HNr.out 0
      have zr1_4 := cellH HNr.out 1
      have zr2_4 := cellH HNr.out 2
      simp only [List.getElem?_toArray, List.getElem?_cons_zero, List.getElem?_cons_succ] at zr0_4 zr1_4 zr2_4
      have zfr_4 := freeH HNr.out
      go_wp2_with fail
      obtain ⟨z1, z2⟩ := set3 HNr.out HB.out (by omega) (.int .i64 0) (.int .i64 0) (.int .i64 5)
      refine bodyPost_ret (results_cell_row Try.results22 _ _ (w.heap.size + 1) 54 _ (0, 0) _ rfl z1 Try.underlying54 rfl info_kn3) rfl ?_
      exact ⟨by rw [HN.out.1, HN.out.2.1, HN.out.2.2], z2⟩
end Go.Proofs.Ytpaihnjgpookjaa
