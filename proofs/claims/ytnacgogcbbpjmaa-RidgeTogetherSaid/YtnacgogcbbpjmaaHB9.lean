/- Check of package ridge. -/
import Derived.Test.YtnacgogcbbpjmaaHB3
import Derived.Test.YtnacgogcbbpjmaaHB8
set_option linter.unusedVariables false
set_option linter.unusedSimpArgs false
namespace Go.Proofs.Ytnacgogcbbpjmaa
open Go Go.RowKit
attribute [local go_sem] Oper.semAt_some

/-- The first fault of a list of towers behind others. -/
def tgE (wd hg : Int) : List Tw → List Tw → Int
  | _, [] => 0
  | s, t :: l => if (wiB t.id 1 1099511627776 && onB wd hg (t.x, t.y) && wiB t.h 0 200) = true then (if (twF s t.id).isSome = true then 6 else tgE wd hg (s ++ [t]) l) else 1
def ckE (wd hg : Int) (g : List Int) (T : List Tw) (H : List Hz) : Int :=
  if vmB wd hg g = true then (if T.length ≤ 12 ∧ H.length ≤ 60 then (if tgE wd hg [] T = 0 then (if hzB (-1) H = true then 0 else 1) else tgE wd hg [] T) else 2) else 1
def coV (wd hg : Int) (o tv hv : Value) : Value := .agg #[.int .i64 wd, .int .i64 hg, o, tv, hv]
theorem take_succ_getD {l : List Tw} {k : Nat} (hk : k < l.length) : l.take (k + 1) = l.take k ++ [l.getD k .nil] := by
  rw [List.take_add_one, List.getD_eq_getElem?_getD, List.getElem?_eq_getElem hk]; rfl
theorem two_eq (x : Option Tw) : twO x = .tuple #[.agg #[.int .i64 (x.getD .nil).id, .int .i64 (x.getD .nil).x, .int .i64 (x.getD .nil).y, .int .i64 (x.getD .nil).h], .bool x.isSome] := by cases x <;> rfl
theorem HzRow.form' {w : World} {v : Value} {l : List Hz} (h : HzRow w v l) : ∃ a cap, v = .slice a l.length cap := by
  obtain ⟨a, cap, h, _⟩ := h.form; exact ⟨a, cap, h⟩
def pickIf (l : Bool) (v u : Value) : Value := if l = true then v else u
theorem pickIf_true (v u : Value) : pickIf true v u = v := rfl
def CkInv (w W1 : World) (wr : World) (wd hg ti tx ty th fi fx fy fh : Int) (fb : Bool) (b off k tcap hcap nT nH : Nat) (o : Value) (ah : Option Addr) (u2 u5 u6 u47 u48 u49 u50 u51 u52 u53 u54 u55 u56 u57 u58 : Value) (listed : Array Bool) (a : Act) (w' : World) : Prop := ∃ (l0 l1 l2 l3 l4 l5 l6 l7 l8 l9 l10 l11 l12 : Bool) (R : Nat), listed = #[l0, l1, l2, l3, l4, l5, l6, l7, l8, l9, l10, l11, l12] ∧ a = { tmps := #[.agg #[.int .i64 wd, .int .i64 hg, o, .slice (some ⟨b, off, none⟩) nT tcap, .slice ah nH hcap], .pointer (some ⟨w.heap.size, 0, none⟩), u2, .int .i64 k, .pointer (some ⟨wr.heap.size, 0, none⟩), pickIf l10 (.pointer (some ⟨R, 0, none⟩)) u5, pickIf l12 (.bool fb) u6, .pointer (some ⟨w.heap.size, 0, none⟩), .agg #[.int .i64 wd, .int .i64 hg, o], .bool true, .bool false, .pointer (some ⟨w.heap.size, 3, none⟩), .slice (some ⟨b, off, none⟩) nT tcap, .int .i64 nT, .bool false, .bool false, .pointer (some ⟨w.heap.size, 4, none⟩), .slice ah nH hcap, .int .i64 nH, .bool false, .bool false, .pointer (some ⟨w.heap.size, 3, none⟩), .slice (some ⟨b, off, none⟩) nT tcap, .int .i64 nT, .int .i64 k, .bool true, .int .i64 k, .pointer (some ⟨b, off + k * 4, none⟩), .agg #[.int .i64 ti, .int .i64 tx, .int .i64 ty, .int .i64 th], .pointer (some ⟨wr.heap.size, 0, none⟩), .int .i64 ti, .bool true, .bool false, .bool false, .pointer (some ⟨w.heap.size, 0, none⟩), .agg #[.int .i64 wd, .int .i64 hg, o], .pointer (some ⟨wr.heap.size, 1, none⟩), .agg #[.int .i64 tx, .int .i64 ty], .bool true, .bool false, .bool false, .bool false, .pointer (some ⟨wr.heap.size, 3, none⟩), .int .i64 th, .bool true, .bool false, .bool false, pickIf l7 (.tuple #[.agg #[.int .i64 fi, .int .i64 fx, .int .i64 fy, .int .i64 fh], .bool fb]) u47, pickIf l0 (.pointer (some ⟨w.heap.size, 3, none⟩)) u48, pickIf l1 (.slice (some ⟨b, off, none⟩) nT tcap) u49, pickIf l2 (.int .i64 k) u50, pickIf l3 (.slice (some ⟨b, off, none⟩) k tcap) u51, pickIf l4 (.pointer (some ⟨wr.heap.size, 0, none⟩)) u52, pickIf l5 (.int .i64 ti) u53, pickIf l6 (.tuple #[.agg #[.int .i64 fi, .int .i64 fx, .int .i64 fy, .int .i64 fh], .bool fb]) u54, pickIf l8 (.agg #[.int .i64 fi, .int .i64 fx, .int .i64 fy, .int .i64 fh]) u55, pickIf l9 (.bool fb) u56, u57, u58, undef, undef, undef, undef], defers := [] } ∧ Below W1.heap.size W1 w' ∧ (l10 = true → W1.heap.size ≤ R ∧ w'.heap[R]? = some (.cells #[.int .i64 (if l11 = true then fi else 0), .int .i64 (if l11 = true then fx else 0), .int .i64 (if l11 = true then fy else 0), .int .i64 (if l11 = true then fh else 0)] 48 (0, 0))) ∧ (l11 = true → l10 = true)

set_option maxRecDepth 100000 in
set_option maxHeartbeats 8000000 in
theorem Check_any (wd hg : Int) (o tv hv : Value) (g : List Int) (T : List Tw) (H : List Hz) (w : World) (ho : INRow w o g) (hl : g.length ≤ 9223372036854775807) (ht : TwRow w tv T) (htl : T.length ≤ 9223372036854775807) (hh : HzRow w hv H) (hhl : H.length ≤ 9223372036854775807) :
    Calls Try.prog 39 #[coV wd hg o tv hv] w fun e w' => e = .returned (.int .i64 (ckE wd hg g T H)) ∧ Below w.heap.size w w' := by
  have HC1 := Lib.hid (fun w' (h : Below w.heap.size w w') => validMap_any wd hg o g w' (ho.keep h) hl)
  have HC2 := Lib.hid (fun w' (h : Below w.heap.size w w') => validHaze_any hv H w' (hh.keep h) hhl)
  have HON := Lib.hid (fun p w' => On_any wd hg o p w')
  have HV : Hid (ckE wd hg g T H = if vmB wd hg g = true then (if T.length ≤ 12 ∧ H.length ≤ 60 then (if tgE wd hg [] T = 0 then (if hzB (-1) H = true then 0 else 1) else tgE wd hg [] T) else 2) else 1) := Lib.hid rfl
  obtain ⟨at0, tcap, rfl, htc⟩ := ht.form
  have HTR := Lib.hid ht
  have HTC := Lib.hid htc
  obtain ⟨ah, hcap, rfl⟩ := hh.form'
  clear ht htc hh ho hl
  unfold mpV at HC1 HON
  unfold plV at HON
  unfold coV
  have HA : Hid (∀ W', Below (w.alloc (.cells #[.int .i64 wd, .int .i64 hg, o, .slice at0 T.length tcap, .slice ah H.length hcap] 28)).heap.size (w.alloc (.cells #[.int .i64 wd, .int .i64 hg, o, .slice at0 T.length tcap, .slice ah H.length hcap] 28)) W' → W'.heap[w.heap.size]? = some (.cells #[.int .i64 wd, .int .i64 hg, o, .slice at0 T.length tcap, .slice ah H.length hcap] 28 (0, 0)) ∧ w.heap.size < W'.heap.size) := Lib.hid fun W' h => ⟨(h.block _ (by simp)).trans (heap_alloc_new _ _), Nat.lt_of_lt_of_le (by simp) h.size⟩
  have HB0 := Lib.hid ((Below.refl _ w).alloc (Nat.le_refl w.heap.size) (.cells #[.int .i64 wd, .int .i64 hg, o, .slice at0 T.length tcap, .slice ah H.length hcap] 28))
  obtain ⟨W1, hW1⟩ : ∃ W1, w.alloc (.cells #[.int .i64 wd, .int .i64 hg, o, .slice at0 T.length tcap, .slice ah H.length hcap] 28) = W1 := ⟨_, rfl⟩
  rw [hW1] at HA HB0
  have HW1 := Lib.hid hW1
  clear hW1
  cases qm : vmB wd hg g
  · rw [qm] at HC1
    have HN : Hid (ckE wd hg g T H = 1) := Lib.hid (by rw [HV.out, qm]; rfl)
    rw [HN.out]
    clear qm
    go_enter Try.func39, Try.ntmps39
    go_wp2_with fail
    rw [HW1.out]
    obtain ⟨m0, hw1⟩ := HA.out W1 (Below.refl _ _)
    have q0 := cellH m0 0
    have q1 := cellH m0 1
    have q2 := cellH m0 2
    simp at q0 q1 q2
    clear m0
    go_wp2_with fail
    refine (HC1.out _ HB0.out).mono ?_
    rintro e w2 ⟨rfl, hb2⟩
    have HB2 := Lib.hid (HB0.out.trans (hb2.mono HB0.out.size))
    clear hb2 q0 q1 q2
    go_wp2_with fail
    go_ret
    exact ⟨rfl, HB2.out⟩
  rw [qm] at HC1
  have HV2 : Hid (ckE wd hg g T H = if T.length ≤ 12 ∧ H.length ≤ 60 then (if tgE wd hg [] T = 0 then (if hzB (-1) H = true then 0 else 1) else tgE wd hg [] T) else 2) := Lib.hid (by rw [HV.out, qm, if_pos rfl])
  clear qm HV
  go_enter Try.func39, Try.ntmps39
  go_wp2_with fail
  rw [HW1.out]
  have HRD : Hid (∀ W', Below W1.heap.size W1 W' → W'.cell? ⟨w.heap.size, 0, none⟩ = some (.int .i64 wd) ∧ W'.cell? ⟨w.heap.size, 1, none⟩ = some (.int .i64 hg) ∧ W'.cell? ⟨w.heap.size, 2, none⟩ = some o ∧ W'.cell? ⟨w.heap.size, 3, none⟩ = some (.slice at0 T.length tcap) ∧ W'.cell? ⟨w.heap.size, 4, none⟩ = some (.slice ah H.length hcap) ∧ w.heap.size < W'.heap.size) := Lib.hid (fun W' h => by
    obtain ⟨m0, h2⟩ := HA.out W' h
    exact ⟨cellH m0 0, cellH m0 1, cellH m0 2, cellH m0 3, cellH m0 4, h2⟩)
  obtain ⟨q0, q1, q2, q3, q4, hw1⟩ := HRD.out W1 (Below.refl _ _)
  go_wp2_with fail
  refine (HC1.out _ HB0.out).mono ?_
  rintro e w2 ⟨rfl, hb2⟩
  have HD2 := Lib.hid hb2
  have HB2 := Lib.hid (HB0.out.trans (hb2.mono HB0.out.size))
  clear q0 q1 q2 q3 q4 hw1
  obtain ⟨q0, q1, q2, q3, q4, hw1⟩ := HRD.out w2 hb2
  clear hb2
  by_cases c1 : T.length ≤ 12
  case neg =>
    have HN : Hid (ckE wd hg g T H = 2) := Lib.hid (by rw [HV2.out, if_neg (fun h => c1 h.1)])
    have p1 : (12 : Int) < T.length := by omega
    clear c1
    go_wp2_with fail
    go_ret
    exact ⟨ret_int' HN.out.symm, HB2.out⟩
  have n1 : ¬ (12 : Int) < T.length := by omega
  have p1 : decide ((12 : Int) < T.length) = false := decide_eq_false n1
  by_cases c2 : H.length ≤ 60
  case neg =>
    have HN : Hid (ckE wd hg g T H = 2) := Lib.hid (by rw [HV2.out, if_neg (fun h => c2 h.2)])
    have p2 : (60 : Int) < H.length := by omega
    clear c2 c1
    go_wp2_with fail
    go_ret
    exact ⟨ret_int' HN.out.symm, HB2.out⟩
  have n2 : ¬ (60 : Int) < H.length := by omega
  have p2 : decide ((60 : Int) < H.length) = false := decide_eq_false n2
  have HV3 : Hid (ckE wd hg g T H = if tgE wd hg [] T = 0 then (if hzB (-1) H = true then 0 else 1) else tgE wd hg [] T) := Lib.hid (by rw [HV2.out, if_pos ⟨c1, c2⟩])
  clear c1 c2 HV2
  go_wp2_with fail
  clear p1 p2 n1 n2 q0 q1 q2 q3 q4
  go_loopw [24] (fun i wr => ∃ (k : Nat), k ≤ T.length ∧ i = .int .i64 k ∧ Hid (tgE wd hg [] T = tgE wd hg (T.take k) (T.drop k)) ∧ Hid (Below W1.heap.size W1 wr)) (fun i _ => T.length - (intOf i).toNat)
  case atStart => exact ⟨0, Nat.zero_le _, rfl, Lib.hid rfl, HD2⟩
  case round =>
    obtain ⟨k, hk, rfl, hT, hB⟩ := hrel
    obtain ⟨q0, q1, q2, q3, q4, hws⟩ := HRD.out wr hB.out
    have HBW := Lib.hid (HB0.out.trans (hB.out.mono HB0.out.size))
    by_cases hkl : k < T.length
    · have hT' : Hid (tgE wd hg [] T = if (wiB (T.getD k .nil).id 1 1099511627776 && onB wd hg ((T.getD k .nil).x, (T.getD k .nil).y) && wiB (T.getD k .nil).h 0 200) = true then (if (twF (T.take k) (T.getD k .nil).id).isSome = true then 6 else tgE wd hg (T.take (k + 1)) (T.drop (k + 1))) else 1) := Lib.hid (by
        rw [hT.out, tdrop_at hkl, take_succ_getD hkl]; rfl)
      obtain ⟨b, off, rfl, hb, c0, c1, c2, c3⟩ := HTC.out k hkl
      have hki : (k : Int) < T.length := by omega
      have hk0 : (0 : Int) ≤ k := by omega
      have e0 := (HBW.out.cell (p := ⟨b, _, none⟩) hb).trans c0
      have e1 := (HBW.out.cell (p := ⟨b, _, none⟩) hb).trans c1
      have e2 := (HBW.out.cell (p := ⟨b, _, none⟩) hb).trans c2
      have e3 := (HBW.out.cell (p := ⟨b, _, none⟩) hb).trans c3
      have hcp := HTR.out.room (by omega)
      have HTK := Lib.hid (HTR.out.take k hk)
      obtain ⟨⟨ti, tx, ty, th⟩, hx⟩ : ∃ x, T.getD k .nil = x := ⟨_, rfl⟩
      rw [hx] at e0 e1 e2 e3 hT'
      simp only at e0 e1 e2 e3 hT'
      have HON1 := Lib.hid (HON.out (tx, ty))
      have HWI := Lib.hid (within_any ti 1 1099511627776)
      have HVT := Lib.hid (validTall_any th)
      have HYB := Lib.hid ((Below.refl _ wr).alloc (Nat.le_refl _) (.cells #[.int .i64 ti, .int .i64 tx, .int .i64 ty, .int .i64 th] 48))
      have HYR : Hid ((wr.alloc (.cells #[.int .i64 ti, .int .i64 tx, .int .i64 ty, .int .i64 th] 48)).heap[wr.heap.size]? = some (.cells #[.int .i64 ti, .int .i64 tx, .int .i64 ty, .int .i64 th] 48 (0, 0))) := Lib.hid (heap_alloc_new _ _)
      obtain ⟨Y, hY⟩ : ∃ Y, wr.alloc (.cells #[.int .i64 ti, .int .i64 tx, .int .i64 ty, .int .i64 th] 48) = Y := ⟨_, rfl⟩
      rw [hY] at HYB HYR
      have HY := Lib.hid hY
      have HD3 := Lib.hid (hB.out.trans (HYB.out.mono hB.out.size))
      have HB3 := Lib.hid (HB0.out.trans (HD3.out.mono HB0.out.size))
      clear c0 c1 c2 c3 hb hx hT hY
      cases q1 : wiB ti 1 1099511627776
      · rw [q1] at HWI hT'
        have HN : Hid (ckE wd hg g T H = 1) := Lib.hid (by rw [HV3.out, hT'.out]; rfl)
        clear q1
        go_wp2_with fail
        refine (HWI.out _).mono ?_
        rintro e w3 ⟨rfl, rfl⟩
        rw [HY.out]
        clear q0 q1 q2 q3 q4 e0 e1 e2 e3
        go_wp2_with fail
        go_ret
        exact ⟨ret_int' HN.out.symm, HB3.out⟩
      rw [q1] at HWI hT'
      clear q1
      cases q1 : onB wd hg (tx, ty)
      · rw [q1] at HON1 hT'
        have HN : Hid (ckE wd hg g T H = 1) := Lib.hid (by rw [HV3.out, hT'.out]; rfl)
        clear q1
        go_wp2_with fail
        refine (HWI.out _).mono ?_
        rintro e w3 ⟨rfl, rfl⟩
        rw [HY.out]
        clear q0 q1 q2 q3 q4 e0 e1 e2 e3
        obtain ⟨q0, q1, q2, q3, q4, hw3⟩ := HRD.out Y HD3.out
        have hyr := HYR.out
        have e0 := cellH hyr 0
        have e1 := cellH hyr 1
        have e2 := cellH hyr 2
        have e3 := cellH hyr 3
        simp at e0 e1 e2 e3
        clear hyr
        go_wp2_with fail
        refine (HON1.out _).mono ?_
        rintro e w4 ⟨rfl, hb4⟩
        have HB4 := Lib.hid (HB3.out.trans (hb4.mono HB3.out.size))
        clear hb4 q0 q1 q2 q3 q4 e0 e1 e2 e3
        go_wp2_with fail
        go_ret
        exact ⟨ret_int' HN.out.symm, HB4.out⟩
      rw [q1] at HON1 hT'
      clear q1
      cases q1 : wiB th 0 200
      · rw [q1] at HVT hT'
        have HN : Hid (ckE wd hg g T H = 1) := Lib.hid (by rw [HV3.out, hT'.out]; rfl)
        clear q1
        go_wp2_with fail
        refine (HWI.out _).mono ?_
        rintro e w3 ⟨rfl, rfl⟩
        rw [HY.out]
        clear q0 q1 q2 q3 q4 e0 e1 e2 e3
        obtain ⟨q0, q1, q2, q3, q4, hw3⟩ := HRD.out Y HD3.out
        have hyr := HYR.out
        have e0 := cellH hyr 0
        have e1 := cellH hyr 1
        have e2 := cellH hyr 2
        have e3 := cellH hyr 3
        simp at e0 e1 e2 e3
        clear hyr
        go_wp2_with fail
        refine (HON1.out _).mono ?_
        rintro e w4 ⟨rfl, hb4⟩
        have HB4 := Lib.hid (HB3.out.trans (hb4.mono HB3.out.size))
        have hyr := (hb4.block _ (Array.getElem?_eq_some_iff.1 HYR.out).1).trans HYR.out
        clear hb4 q0 q1 q2 q3 q4 e0 e1 e2 e3
        have e3 := cellH hyr 3
        simp at e3
        clear hyr
        go_wp2_with fail
        refine (HVT.out _).mono ?_
        rintro e w5 ⟨rfl, rfl⟩
        go_wp2_with fail
        go_ret
        exact ⟨ret_int' HN.out.symm, HB4.out⟩
      rw [q1] at HVT hT'
      clear q1
      go_wp2_with fail
      refine (HWI.out _).mono ?_
      rintro e w3 ⟨rfl, rfl⟩
      rw [HY.out]
      clear q0 q1 q2 q3 q4 e0 e1 e2 e3
      obtain ⟨q0, q1, q2, q3, q4, hw3⟩ := HRD.out Y HD3.out
      have hyr := HYR.out
      have e0 := cellH hyr 0
      have e1 := cellH hyr 1
      have e2 := cellH hyr 2
      have e3 := cellH hyr 3
      simp at e0 e1 e2 e3
      clear hyr
      go_wp2_with fail
      refine (HON1.out _).mono ?_
      rintro e w4 ⟨rfl, hb4⟩
      have HD4 := Lib.hid (HD3.out.trans (hb4.mono HD3.out.size))
      have HB4 := Lib.hid (HB3.out.trans (hb4.mono HB3.out.size))
      have HR4 := Lib.hid ((hb4.block _ (Array.getElem?_eq_some_iff.1 HYR.out).1).trans HYR.out)
      have hyr := HR4.out
      clear hb4 q0 q1 q2 q3 q4 e0 e1 e2 e3
      have e3 := cellH hyr 3
      simp at e3
      clear hyr
      go_wp2_with fail
      refine (HVT.out _).mono ?_
      rintro e w5 ⟨rfl, rfl⟩
      clear e3
      go_wp2_with fail
      rename_i Q0 K0 hK0 K hK
      have HRD2 : Hid (∀ W', Below w5.heap.size w5 W' → W'.cell? ⟨w.heap.size, 3, none⟩ = some (.slice (some ⟨b, off, none⟩) T.length tcap) ∧ W'.cell? ⟨wr.heap.size, 0, none⟩ = some (.int .i64 ti)) := Lib.hid (fun W' h => by
        obtain ⟨_, _, _, q3, _, _⟩ := HRD.out W' (HD4.out.trans (h.mono HD4.out.size))
        exact ⟨q3, by have := cellH ((h.block _ (Array.getElem?_eq_some_iff.1 HR4.out).1).trans HR4.out) 0; simpa using this⟩)
      have CT0 := Lib.hid (fun w' (h : Below w5.heap.size w5 w') => towerOf_any (.slice (some ⟨b, off, none⟩) k tcap) (T.take k) ti w' ((HTK.out.keep HB4.out).keep h) (by simp; omega))
      rw [two_eq] at CT0
      obtain ⟨⟨fi, fx, fy, fh⟩, hfe⟩ : ∃ x, (twF (T.take k) ti).getD .nil = x := ⟨_, rfl⟩
      obtain ⟨fb, hfb⟩ : ∃ x, (twF (T.take k) ti).isSome = x := ⟨_, rfl⟩
      rw [hfe, hfb] at CT0
      rw [hfb] at hT'
      simp only at CT0
      have CT := CT0
      have hkc : k ≤ tcap := by omega
      clear CT0 hfe hfb
      suffices key : ∀ (R : Nat) (W : World), Hid (Below w5.heap.size w5 W ∧ w5.heap.size ≤ R ∧ W.heap[R]? = some (.cells #[.int .i64 fi, .int .i64 fx, .int .i64 fy, .int .i64 fh] 48 (0, 0))) → Exit.then K (Exit.inBlock 1 (Exit.then K0 Q0)) Exit.normal { tmps := #[.agg #[.int .i64 wd, .int .i64 hg, o, .slice (some ⟨b, off, none⟩) T.length tcap, .slice ah H.length hcap], .pointer (some ⟨w.heap.size, 0, none⟩), u2, .int .i64 k, .pointer (some ⟨wr.heap.size, 0, none⟩), (.pointer (some ⟨R, 0, none⟩)), (.bool fb), .pointer (some ⟨w.heap.size, 0, none⟩), .agg #[.int .i64 wd, .int .i64 hg, o], .bool true, .bool false, .pointer (some ⟨w.heap.size, 3, none⟩), .slice (some ⟨b, off, none⟩) T.length tcap, .int .i64 T.length, .bool false, .bool false, .pointer (some ⟨w.heap.size, 4, none⟩), .slice ah H.length hcap, .int .i64 H.length, .bool false, .bool false, .pointer (some ⟨w.heap.size, 3, none⟩), .slice (some ⟨b, off, none⟩) T.length tcap, .int .i64 T.length, .int .i64 k, .bool true, .int .i64 k, .pointer (some ⟨b, off + k * 4, none⟩), .agg #[.int .i64 ti, .int .i64 tx, .int .i64 ty, .int .i64 th], .pointer (some ⟨wr.heap.size, 0, none⟩), .int .i64 ti, .bool true, .bool false, .bool false, .pointer (some ⟨w.heap.size, 0, none⟩), .agg #[.int .i64 wd, .int .i64 hg, o], .pointer (some ⟨wr.heap.size, 1, none⟩), .agg #[.int .i64 tx, .int .i64 ty], .bool true, .bool false, .bool false, .bool false, .pointer (some ⟨wr.heap.size, 3, none⟩), .int .i64 th, .bool true, .bool false, .bool false, (.tuple #[.agg #[.int .i64 fi, .int .i64 fx, .int .i64 fy, .int .i64 fh], .bool fb]), (.pointer (some ⟨w.heap.size, 3, none⟩)), (.slice (some ⟨b, off, none⟩) T.length tcap), (.int .i64 k), (.slice (some ⟨b, off, none⟩) k tcap), (.pointer (some ⟨wr.heap.size, 0, none⟩)), (.int .i64 ti), (.tuple #[.agg #[.int .i64 fi, .int .i64 fx, .int .i64 fy, .int .i64 fh], .bool fb]), (.agg #[.int .i64 fi, .int .i64 fx, .int .i64 fy, .int .i64 fh]), (.bool fb), u57, u58, undef, undef, undef, undef], defers := [] } W by
        clear hK
        refine wp_region_inv (by kernel_rfl) (CkInv w w5 wr wd hg ti tx ty th fi fx fy fh fb b off k tcap hcap T.length H.length o ah u2 u5 u6 u47 u48 u49 u50 u51 u52 u53 u54 u55 u56 u57 u58) ⟨false, false, false, false, false, false, false, false, false, false, false, false, false, 0, rfl, rfl, (Below.refl _ w5).drew, by simp, by simp⟩ ?hend ?hstep
        case hend =>
          rintro listed a w' ⟨l0, l1, l2, l3, l4, l5, l6, l7, l8, l9, l10, l11, l12, R, rfl, rfl, hb, hR, kR⟩ hr
          have hA := ready_all (by kernel_rfl) rfl hr 13
          have hall : l0 = true ∧ l1 = true ∧ l2 = true ∧ l3 = true ∧ l4 = true ∧ l5 = true ∧ l6 = true ∧ l7 = true ∧ l8 = true ∧ l9 = true ∧ l10 = true ∧ l11 = true ∧ l12 = true :=
            ⟨hA 0 (by decide) (by simp), hA 1 (by decide) (by simp), hA 2 (by decide) (by simp), hA 3 (by decide) (by simp), hA 4 (by decide) (by simp), hA 5 (by decide) (by simp), hA 6 (by decide) (by simp), hA 7 (by decide) (by simp), hA 8 (by decide) (by simp), hA 9 (by decide) (by simp), hA 10 (by decide) (by simp), hA 11 (by decide) (by simp), hA 12 (by decide) (by simp)⟩
          obtain ⟨rfl, rfl, rfl, rfl, rfl, rfl, rfl, rfl, rfl, rfl, rfl, rfl, rfl⟩ := hall
          exact key R w' (Lib.hid ⟨hb, (hR rfl).1, (hR rfl).2⟩)
        case hstep =>
          rintro listed a w' i ⟨l0, l1, l2, l3, l4, l5, l6, l7, l8, l9, l10, l11, l12, R, rfl, rfl, hb, hR, kR⟩ hi
          obtain ⟨hf, o', ho', hp⟩ := mem_ready.1 hi
          have hi8 : i < 13 := (Array.getElem?_eq_some_iff.1 ho').1
          clear hi
          have hQD := HRD2.out w' hb
          match i, hi8 with
          | 0, _ =>
            obtain rfl : l0 = false := hf
            clear hp ho'
            unfold wpOp
            go_simp
            exact .inl ⟨true, l1, l2, l3, l4, l5, l6, l7, l8, l9, l10, l11, l12, R, rfl, rfl, hb, hR, kR⟩
          | 1, _ =>
            obtain rfl : l1 = false := hf
            cases ho'
            obtain rfl : l0 = true := hp ⟨0, .data⟩ (by simp) rfl
            clear hp
            unfold wpOp
            simp only [pickIf_true]
            go_simp
            exact .inl ⟨true, true, l2, l3, l4, l5, l6, l7, l8, l9, l10, l11, l12, R, rfl, rfl, hb, hR, kR⟩
          | 2, _ =>
            obtain rfl : l2 = false := hf
            clear hp ho'
            unfold wpOp
            go_simp
            exact .inl ⟨l0, l1, true, l3, l4, l5, l6, l7, l8, l9, l10, l11, l12, R, rfl, rfl, hb, hR, kR⟩
          | 3, _ =>
            obtain rfl : l3 = false := hf
            cases ho'
            obtain rfl : l1 = true := hp ⟨1, .data⟩ (by simp) rfl
            obtain rfl : l2 = true := hp ⟨2, .data⟩ (by simp) rfl
            clear hp
            unfold wpOp
            simp only [pickIf_true]
            go_simp
            exact .inl ⟨l0, true, true, true, l4, l5, l6, l7, l8, l9, l10, l11, l12, R, rfl, rfl, hb, hR, kR⟩
          | 4, _ =>
            obtain rfl : l4 = false := hf
            clear hp ho'
            unfold wpOp
            go_simp
            exact .inl ⟨l0, l1, l2, l3, true, l5, l6, l7, l8, l9, l10, l11, l12, R, rfl, rfl, hb, hR, kR⟩
          | 5, _ =>
            obtain rfl : l5 = false := hf
            cases ho'
            obtain rfl : l4 = true := hp ⟨4, .data⟩ (by simp) rfl
            clear hp
            unfold wpOp
            simp only [pickIf_true]
            go_simp
            exact .inl ⟨l0, l1, l2, l3, true, true, l6, l7, l8, l9, l10, l11, l12, R, rfl, rfl, hb, hR, kR⟩
          | 6, _ =>
            obtain rfl : l6 = false := hf
            cases ho'
            obtain rfl : l3 = true := hp ⟨3, .data⟩ (by simp) rfl
            obtain rfl : l5 = true := hp ⟨5, .data⟩ (by simp) rfl
            clear hp
            unfold wpOp
            simp only [pickIf_true]
            go_simp
            refine .inl ((CT.out w' hb).mono ?_)
            rintro e w6 ⟨rfl, hb5⟩
            exact ⟨l0, l1, l2, true, l4, true, true, l7, l8, l9, l10, l11, l12, R, rfl, rfl, hb.trans (hb5.mono hb.size), fun h => ⟨(hR h).1, (hb5.block _ (Array.getElem?_eq_some_iff.1 (hR h).2).1).trans (hR h).2⟩, kR⟩
          | 7, _ =>
            obtain rfl : l7 = false := hf
            cases ho'
            obtain rfl : l6 = true := hp ⟨6, .data⟩ (by simp) rfl
            clear hp
            unfold wpOp
            simp only [pickIf_true]
            go_simp
            exact .inl ⟨l0, l1, l2, l3, l4, l5, true, true, l8, l9, l10, l11, l12, R, rfl, rfl, hb, hR, kR⟩
          | 8, _ =>
            obtain rfl : l8 = false := hf
            cases ho'
            obtain rfl : l7 = true := hp ⟨7, .data⟩ (by simp) rfl
            clear hp
            unfold wpOp
            simp only [pickIf_true]
            go_simp
            exact .inl ⟨l0, l1, l2, l3, l4, l5, l6, true, true, l9, l10, l11, l12, R, rfl, rfl, hb, hR, kR⟩
          | 9, _ =>
            obtain rfl : l9 = false := hf
            cases ho'
            obtain rfl : l7 = true := hp ⟨7, .data⟩ (by simp) rfl
            clear hp
            unfold wpOp
            simp only [pickIf_true]
            go_simp
            exact .inl ⟨l0, l1, l2, l3, l4, l5, l6, true, l8, true, l10, l11, l12, R, rfl, rfl, hb, hR, kR⟩
          | 10, _ =>
            obtain rfl : l10 = false := hf
            obtain rfl : l11 = false := by
              cases l11 with
              | false => rfl
              | true => exact absurd (kR rfl) (by decide)
            clear hp ho'
            unfold wpOp
            go_simp
            exact .inl ⟨l0, l1, l2, l3, l4, l5, l6, l7, l8, l9, true, false, l12, w'.heap.size, rfl, rfl, hb.alloc hb.size _, fun _ => ⟨hb.size, heap_alloc_new _ _⟩, fun h => (by cases h)⟩
          | 11, _ =>
            obtain rfl : l11 = false := hf
            cases ho'
            obtain rfl : l8 = true := hp ⟨8, .data⟩ (by simp) rfl
            obtain rfl : l10 = true := hp ⟨10, .data⟩ (by simp) rfl
            clear hp
            obtain ⟨f1, f2⟩ := hR rfl
            simp only [Bool.false_eq_true, if_false] at f2
            have x0 := cellH f2 0
            have x1 := cellH f2 1
            have x2 := cellH f2 2
            have x3 := cellH f2 3
            have xf := freeH f2
            simp at x0 x1 x2 x3
            unfold wpOp
            simp only [pickIf_true]
            go_simp
            exact .inl ⟨l0, l1, l2, l3, l4, l5, l6, l7, true, l9, true, true, l12, R, rfl, rfl, ((((hb.setCell (p := ⟨R, 0, none⟩) (by simpa using f1) _).setCell (p := ⟨R, 1, none⟩) (by simpa using f1) _).setCell (p := ⟨R, 2, none⟩) (by simpa using f1) _).setCell (p := ⟨R, 3, none⟩) (by simpa using f1) _), fun _ => ⟨f1, (heap_same (heap_same (heap_same (heap_same f2 0 _) 1 _) 2 _) 3 _)⟩, fun _ => rfl⟩
          | 12, _ =>
            obtain rfl : l12 = false := hf
            cases ho'
            obtain rfl : l9 = true := hp ⟨9, .data⟩ (by simp) rfl
            clear hp
            unfold wpOp
            simp only [pickIf_true]
            go_simp
            exact .inl ⟨l0, l1, l2, l3, l4, l5, l6, l7, l8, true, l10, l11, true, R, rfl, rfl, hb, hR, kR⟩
      intro R W HW
      show K _ _
      apply hK
      clear hK
      have HWB := Lib.hid (HD4.out.trans (HW.out.1.mono HD4.out.size))
      have HWW := Lib.hid (HB0.out.trans (HWB.out.mono HB0.out.size))
      clear hkc CT HRD2 HW
      cases fb
      · have HN : Hid (tgE wd hg [] T = tgE wd hg (T.take (k + 1)) (T.drop (k + 1))) := Lib.hid (by rw [hT'.out]; rfl)
        go_wp2_with fail
        go_roundw
        case rel => exact ⟨k + 1, by omega, by go_num, HN, HWB⟩
        case measure => simp [intOf]; omega
      · have HN : Hid (ckE wd hg g T H = 6) := Lib.hid (by rw [HV3.out, hT'.out]; rfl)
        go_wp2_with fail
        go_ret
        exact ⟨ret_int' HN.out.symm, HWW.out⟩
    · obtain rfl : k = T.length := by omega
      have HV4 : Hid (ckE wd hg g T H = if hzB (-1) H = true then 0 else 1) := Lib.hid (by rw [HV3.out, hT.out, List.drop_length]; rfl)
      cases qz : hzB (-1) H
      · rw [qz] at HC2 HV4
        go_wp2_with fail
        refine (HC2.out _ HBW.out).mono ?_
        rintro e w3 ⟨rfl, hb3⟩
        have HB3 := Lib.hid (HBW.out.trans (hb3.mono HBW.out.size))
        clear hb3
        go_wp2_with fail
        go_ret
        exact ⟨ret_int' HV4.out.symm, HB3.out⟩
      · rw [qz] at HC2 HV4
        go_wp2_with fail
        refine (HC2.out _ HBW.out).mono ?_
        rintro e w3 ⟨rfl, hb3⟩
        have HB3 := Lib.hid (HBW.out.trans (hb3.mono HBW.out.size))
        clear hb3
        go_wp2_with fail
        go_ret
        exact ⟨ret_int' HV4.out.symm, HB3.out⟩
end Go.Proofs.Ytnacgogcbbpjmaa
