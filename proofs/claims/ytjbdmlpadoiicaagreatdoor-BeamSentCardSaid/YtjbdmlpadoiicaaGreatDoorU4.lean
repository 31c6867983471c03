/- Compare, firstShared, received and Confused of package beam. -/
import Derived.Test.YtjbdmlpadoiicaaGreatDoorF4
import Derived.Test.YtjbdmlpadoiicaaGreatDoorS9
import Derived.Test.YtjbdmlpadoiicaaGreatDoorU0
import Derived.Test.YtjbdmlpadoiicaaGreatDoorB1
import Derived.Test.YtjbdmlpadoiicaaGreatDoorB5
import Derived.WalkLawsBesides
import Derived.Sort.Walk0
set_option linter.unusedVariables false
set_option linter.unusedSimpArgs false
namespace Go.Proofs.YtjbdmlpadoiicaaGreatDoor
open Go.RowKit Go.Shelf

theorem isNaN_any (x : List UInt8) (w : World) : Calls Tryz.prog 77 #[.string (B x)] w fun e w' => e = .returned (.bool false) ∧ w = w' := by
  go_enter Tryz.func77, Tryz.ntmps77
  go_wp2_with fail
  go_ret
  exact ⟨rfl, rfl⟩
def cmpI (x y : List UInt8) : Int := if x < y then -1 else if x = y then 0 else 1
theorem bless (x y : List UInt8) : Op.bytesLess x y = decide (x < y) := bytesLess_eq x y
theorem compare_any (x y : List UInt8) (w : World) : Calls Tryz.prog 38 #[.string (B x), .string (B y)] w fun e w' => e = .returned (.int .i64 (cmpI x y)) ∧ w = w' := by
  by_cases h1 : x < y
  · have HC : Hid (cmpI x y = -1) := Lib.hid (by unfold cmpI; rw [if_pos h1])
    have hq : Op.bytesLess x y = true := by rw [bless]; exact decide_eq_true h1
    clear h1
    go_enter Tryz.func38, Tryz.ntmps38
    go_wp2_with (go_at_call 77; refine (isNaN_any _ _).mono ?_; rintro e w' ⟨rfl, rfl⟩)
    go_ret
    exact ⟨ret_int HC.out.symm, rfl⟩
  · have hq : Op.bytesLess x y = false := by rw [bless]; exact decide_eq_false h1
    by_cases h2 : x = y
    · have HC : Hid (cmpI x y = 0) := Lib.hid (by unfold cmpI; rw [if_neg h1, if_pos h2])
      have he : (x == y) = true := by simpa using h2
      have he2 : (!x == y) = false := by rw [he]; rfl
      clear h1 h2
      go_enter Tryz.func38, Tryz.ntmps38
      go_wp2_with (go_at_call 77; refine (isNaN_any _ _).mono ?_; rintro e w' ⟨rfl, rfl⟩)
      go_ret
      exact ⟨ret_int HC.out.symm, rfl⟩
    · have HC : Hid (cmpI x y = 1) := Lib.hid (by unfold cmpI; rw [if_neg h1, if_neg h2])
      have he : (x == y) = false := by simpa using h2
      have he2 : (!x == y) = true := by rw [he]; rfl
      clear h1 h2
      go_enter Tryz.func38, Tryz.ntmps38
      go_wp2_with (go_at_call 77; refine (isNaN_any _ _).mono ?_; rintro e w' ⟨rfl, rfl⟩)
      go_ret
      exact ⟨ret_int HC.out.symm, rfl⟩
theorem compare_quiet (x y : List UInt8) (w : World) : Calls Tryz.prog 38 #[.string (B x), .string (B y)] w fun e w' => e = .returned (.int .i64 (cmpI x y)) ∧ w' = w :=
  (compare_any x y w).mono fun _ _ ⟨a, b⟩ => ⟨a, b.symm⟩

theorem slice1_run (W : World) (g k n c : Nat) (hc : n + 1 ≤ c) : (Instr.slice 41 (.slice (some ⟨g, k, none⟩) (n + 1) c) (some (.int .i64 1)) none none).run Tryz.prog W = .ok (.slice (some ⟨g, if c = 1 then k else k + 1, none⟩) n (c - 1)) W := by
  have h1 : (0 : Int) ≤ 1 ∧ (1 : Int) ≤ ((n + 1 : Nat) : Int) := by omega
  by_cases h : c = 1
  · have hn : n = 0 := by omega
    subst h; subst hn
    simp [Instr.slice, Instr.sliceBounds, Instr.sliceBound, asIntOf, run_underlying Tryz.underlying41, go_sem]
  · rw [if_neg h]
    simp [Instr.slice, Instr.sliceBounds, Instr.sliceBound, asIntOf, run_underlying Tryz.underlying41, h1, go_sem]
    rw [if_pos (by omega), if_neg h]
theorem signal_short {w : List UInt8} (hw : wordB w = true) : (signalL w).length ≤ 100 := by
  have := flashL_length (textL w)
  have h2 := textL_length w
  have := (word_parts hw).2.1
  unfold signalL
  simp only [List.length_append, List.length_cons, List.length_nil]
  omega
theorem tidy_len (l : List (List UInt8)) : (tidy l).length ≤ l.length := by
  unfold tidy
  have := Lib.compact_length_le (l.mergeSort fun x y => decide (x ≤ y))
  simpa using this
def sliceLen : Value → Nat
  | .slice _ n _ => n
  | _ => 0
def shareV (o : Option (List UInt8)) : Value := match o with | some x => .tuple #[.string (B x), .bool true] | none => .tuple #[.string ⟨#[]⟩, .bool false]

set_option maxRecDepth 100000 in
set_option maxHeartbeats 2000000 in
theorem firstShared_any (ra rb ca cb : Nat) (a b : List (List UInt8)) (w : World) (ha : Strict a) (hb : Strict b) (hra : ra < w.heap.size) (hrb : rb < w.heap.size) (hca : a.length ≤ ca) (hcb : b.length ≤ cb)
    (ka : ∀ i, i < a.length → w.cell? ⟨ra, i, none⟩ = some (.string (B (a.getD i [])))) (kb : ∀ i, i < b.length → w.cell? ⟨rb, i, none⟩ = some (.string (B (b.getD i [])))) (hal : a.length ≤ 1000000) (hbl : b.length ≤ 1000000) :
    Calls Tryz.prog 47 #[.slice (some ⟨ra, 0, none⟩) a.length ca, .slice (some ⟨rb, 0, none⟩) b.length cb] w fun e w' => e = .returned (shareV (shareO a b)) ∧ Below w.heap.size w w' := by
  have HKA := Lib.hid ka
  have HKB := Lib.hid kb
  have HA := Lib.hid ha
  have HB := Lib.hid hb
  clear ka kb ha hb
  go_enter Tryz.func47, Tryz.ntmps47
  go_wp2_with fail
  go_loopw [0, 1] (fun u v wr => ∃ (i j i' j' cA cB : Nat) (A Bl : List (List UInt8)), u = .slice (some ⟨ra, i', none⟩) A.length cA ∧ v = .slice (some ⟨rb, j', none⟩) Bl.length cB ∧ A.length ≤ cA ∧ Bl.length ≤ cB ∧ A.length ≤ 1000000 ∧ Bl.length ≤ 1000000 ∧
      Hid ((A ≠ [] → i' = i) ∧ a.drop i = A ∧ Strict A) ∧ Hid ((Bl ≠ [] → j' = j) ∧ b.drop j = Bl ∧ Strict Bl) ∧ Hid (shareO A Bl = shareO a b) ∧ Hid (Below w.heap.size w wr)) (fun u v _ => sliceLen u + sliceLen v)
  case atStart => exact ⟨0, 0, 0, 0, ca, cb, a, b, rfl, rfl, hca, hcb, hal, hbl, Lib.hid ⟨fun _ => rfl, rfl, HA.out⟩, Lib.hid ⟨fun _ => rfl, rfl, HB.out⟩, Lib.hid rfl, Lib.hid (Below.refl _ _)⟩
  case round =>
    obtain ⟨i, j, i', j', cA, cB, A, Bl, rfl, rfl, hcA, hcB, hAl, hBl, hA, hBs, hsh, hBw⟩ := hrel
    cases A with
    | nil =>
      have HV : Hid (shareV (shareO a b) = .tuple #[.string ⟨#[]⟩, .bool false]) := Lib.hid (by rw [← hsh.out]; rfl)
      go_wp2_with fail
      go_ret2
      exact ⟨ret_val HV.out.symm, hBw.out⟩
    | cons x A =>
      cases Bl with
      | nil =>
        have HV : Hid (shareV (shareO a b) = .tuple #[.string ⟨#[]⟩, .bool false]) := Lib.hid (by rw [← hsh.out, share_nil_right]; rfl)
        simp only [List.length_cons] at hcA hAl ⊢
        have hpa : (0 : Int) < (A.length : Int) + 1 := by omega
        go_wp2_with fail
        go_ret2
        exact ⟨ret_val HV.out.symm, hBw.out⟩
      | cons y Bl =>
        obtain ⟨e1, e2, e3⟩ := hA.out
        obtain ⟨d1, d2, d3⟩ := hBs.out
        obtain rfl : i' = i := e1 (by simp)
        obtain rfl : j' = j := d1 (by simp)
        have gi : i' < a.length := by
          have := congrArg List.length e2; rw [List.length_drop] at this; simp at this; omega
        have gj : j' < b.length := by
          have := congrArg List.length d2; rw [List.length_drop] at this; simp at this; omega
        have hx : a.getD i' [] = x := by
          have h0 : (a.drop i').getD 0 [] = x := by rw [e2]; rfl
          rw [List.getD_eq_getElem?_getD, List.getElem?_drop, Nat.add_zero, ← List.getD_eq_getElem?_getD] at h0; exact h0
        have hy : b.getD j' [] = y := by
          have h0 : (b.drop j').getD 0 [] = y := by rw [d2]; rfl
          rw [List.getD_eq_getElem?_getD, List.getElem?_drop, Nat.add_zero, ← List.getD_eq_getElem?_getD] at h0; exact h0
        have da : a.drop (i' + 1) = A := by rw [← List.tail_drop, e2]; rfl
        have db : b.drop (j' + 1) = Bl := by rw [← List.tail_drop, d2]; rfl
        have ca0 : wr.cell? ⟨ra, i', none⟩ = some (.string (B x)) := by rw [← hx]; exact (hBw.out.cell (p := ⟨ra, i', none⟩) hra).trans (HKA.out i' gi)
        have cb0 : wr.cell? ⟨rb, j', none⟩ = some (.string (B y)) := by rw [← hy]; exact (hBw.out.cell (p := ⟨rb, j', none⟩) hrb).trans (HKB.out j' gj)
        simp only [List.length_cons] at hcA hcB hAl hBl ⊢
        have hpa : (0 : Int) < (A.length : Int) + 1 := by omega
        have hpb : (0 : Int) < (Bl.length : Int) + 1 := by omega
        have hs1 := fun W => slice1_run W ra i' A.length cA hcA
        have hs2 := fun W => slice1_run W rb j' Bl.length cB hcB
        have HDA := Lib.hid da; have HDB := Lib.hid db; have HE3 := Lib.hid e3; have HD3 := Lib.hid d3
        clear e1 e2 e3 d1 d2 d3 gi gj hx hy da db
        by_cases hlt : x < y
        · have HCI : Hid (cmpI x y = -1) := Lib.hid (by unfold cmpI; rw [if_pos hlt])
          have HSH := Lib.hid ((share_lt (a := A) HD3.out hlt).symm.trans hsh.out)
          clear hlt
          go_wp2_with fail
          go_quiet ((go_at_call 38; exact Calls.quiet_of_same (compare_quiet _ _ _)))
          rw [HCI.out]
          go_wp2_with fail
          go_roundw
          case rel => exact ⟨i' + 1, j', _, j', cA - 1, cB, A, y :: Bl, rfl, rfl, by omega, by simpa using hcB, by omega, by simpa using hBl, Lib.hid ⟨fun h => by rw [if_neg (by have := List.length_pos_iff.2 h; omega)], HDA.out, HE3.out.tail⟩, Lib.hid ⟨fun _ => rfl, hBs.out.2⟩, HSH, Lib.hid (below_drewN hBw.out _)⟩
          case measure => simp [sliceLen]
        · by_cases heq : x = y
          · have HCI : Hid (cmpI x y = 0) := Lib.hid (by unfold cmpI; rw [if_neg hlt, if_pos heq])
            have HV : Hid (shareV (shareO a b) = .tuple #[.string (B x), .bool true]) := Lib.hid (by rw [← hsh.out, ← heq, share_eq]; rfl)
            clear hlt heq
            go_wp2_with fail
            go_quiet ((go_at_call 38; exact Calls.quiet_of_same (compare_quiet _ _ _)))
            rw [HCI.out]
            go_wp2_with fail
            go_ret2
            exact ⟨ret_val HV.out.symm, below_drewN hBw.out _⟩
          · have HCI : Hid (cmpI x y = 1) := Lib.hid (by unfold cmpI; rw [if_neg hlt, if_neg heq])
            have hgt : y < x := lt_of_le_ne (List.not_lt.1 hlt) (Ne.symm heq)
            have HSH := Lib.hid ((share_gt (b := Bl) HE3.out hgt).symm.trans hsh.out)
            clear hlt heq hgt
            go_wp2_with fail
            go_quiet ((go_at_call 38; exact Calls.quiet_of_same (compare_quiet _ _ _)))
            rw [HCI.out]
            go_wp2_with fail
            go_roundw
            case rel => exact ⟨i', j' + 1, i', _, cA, cB - 1, x :: A, Bl, rfl, rfl, by simpa using hcA, by omega, by simpa using hAl, by omega, Lib.hid ⟨fun _ => rfl, hA.out.2⟩, Lib.hid ⟨fun h => by rw [if_neg (by have := List.length_pos_iff.2 h; omega)], HDB.out, HD3.out.tail⟩, HSH, Lib.hid (below_drewN hBw.out _)⟩
            case measure => simp [sliceLen]

/-- All that can be received for a word. -/
theorem received_any (x : List UInt8) (n : Nat) (w : World) (hx : wordB x = true) (hn : n ≤ 2) (hE : Env w) :
    Calls Tryz.prog 48 #[.string (B x), .int .i64 n] w fun e w' =>
      ∃ (r cap : Nat), e = .returned (.slice (some ⟨r, 0, none⟩) (resL (signalL x) n).length cap) ∧ w'.ownsRow w.heap.size 9 1 (.slice (some ⟨r, 0, none⟩) (resL (signalL x) n).length cap) (resL (signalL x) n).length ((resL (signalL x) n).map encStr) ∧ Below w.heap.size w w' := by
  have hl : (B x).size ≤ maxLen := by rw [size_B]; have := (word_parts hx).2.1; unfold maxLen; omega
  have HV : Hid (signalV (B x).data.toList = .tuple #[.string (B (signalL x)), .int .i64 0]) := Lib.hid (by rw [L_B]; unfold signalV; rw [if_pos hx])
  have hsl := Lib.hid (signal_short hx)
  have HE := Lib.hid hE
  clear hx hE
  go_enter Tryz.func48, Tryz.ntmps48
  go_wp2_with fail
  refine (signal_any _ _ hl HE.out.1 HE.out.2).mono ?_
  rintro e w1 ⟨rfl, hb⟩
  rw [HV.out]
  have HB := Lib.hid hb
  clear hb
  go_wp2_with fail
  refine (results_any _ n _ hsl.out hn).mono ?_
  rintro e w2 ⟨r, cap, rfl, hrow, hb⟩
  have HR := Lib.hid (hrow.mono_base (base' := w.heap.size) HB.out.size)
  have HB2 := Lib.hid (HB.out.trans (hb.mono HB.out.size))
  clear hb hrow
  go_wp2_with fail
  go_ret
  exact ⟨r, cap, rfl, HR.out, HB2.out⟩
theorem res_rows {w : World} {base r cap : Nat} {l : List (List UInt8)} (h : w.ownsRow base 9 1 (.slice (some ⟨r, 0, none⟩) l.length cap) l.length (l.map encStr)) :
    r < w.heap.size ∧ l.length ≤ cap ∧ ∀ i, i < l.length → w.cell? ⟨r, i, none⟩ = some (.string (B (l.getD i []))) := by
  rcases h.2 with ⟨h0, _⟩ | ⟨g, cap', cur, hv, _, hb, hn, _⟩
  · cases h0
  · cases hv
    refine ⟨(Array.getElem?_eq_some_iff.1 hb).1, hn, fun i hi => ?_⟩
    have := h.cellAt i (by simpa using hi)
    rw [List.getD_eq_getElem?_getD, List.getElem?_eq_getElem hi]
    simpa [encStr, B, List.getElem?_eq_getElem hi] using this
def confO (a b : List UInt8) (n : Nat) : Option (List UInt8) := shareO (resL (signalL a) n) (resL (signalL b) n)
def confV (o : Option (List UInt8)) : Value := match o with | some x => .tuple #[.string (B x), .bool true, .int .i64 0] | none => .tuple #[.string ⟨#[]⟩, .bool false, .int .i64 0]

theorem Confused_no (a b : List UInt8) (n : Int) (w : World) (ha : a.length ≤ maxLen) (hb : b.length ≤ maxLen) (h : wordB a = false ∨ wordB b = false) :
    Calls Tryz.prog 14 #[.string (B a), .string (B b), .int .i64 n] w fun e w' => e = .returned (.tuple #[.string ⟨#[]⟩, .bool false, .int .i64 7]) ∧ w = w' := by
  have HA : Hid ((B a).size ≤ maxLen) := Lib.hid (by rw [size_B]; exact ha)
  have HB : Hid ((B b).size ≤ maxLen) := Lib.hid (by rw [size_B]; exact hb)
  cases hwa : wordB a
  · have HW : Hid (wordB (B a).data.toList = false) := Lib.hid (by rw [L_B]; exact hwa)
    clear hwa h ha hb
    go_enter Tryz.func14, Tryz.ntmps14
    go_wp2_with fail
    refine (word_any _ _ HA.out).mono ?_
    rintro e w' ⟨rfl, rfl⟩
    rw [HW.out]
    go_wp2_with fail
    go_ret3
    exact ⟨rfl, rfl⟩
  · have hwb : wordB b = false := by rcases h with h | h
                                     · rw [hwa] at h; cases h
                                     · exact h
    have HW : Hid (wordB (B a).data.toList = true) := Lib.hid (by rw [L_B]; exact hwa)
    have HW2 : Hid (wordB (B b).data.toList = false) := Lib.hid (by rw [L_B]; exact hwb)
    clear hwa hwb h ha hb
    go_enter Tryz.func14, Tryz.ntmps14
    go_wp2_with fail
    refine (word_any _ _ HA.out).mono ?_
    rintro e w' ⟨rfl, rfl⟩
    rw [HW.out]
    go_wp2_with fail
    refine (word_any _ _ HB.out).mono ?_
    rintro e w' ⟨rfl, rfl⟩
    rw [HW2.out]
    go_wp2_with fail
    go_ret3
    exact ⟨rfl, rfl⟩

set_option maxRecDepth 100000 in
set_option maxHeartbeats 1000000 in
theorem Confused_ok (a b : List UInt8) (n : Nat) (w : World) (ha : wordB a = true) (hb : wordB b = true) (hn : n ≤ 2) (hE : Env w) :
    Calls Tryz.prog 14 #[.string (B a), .string (B b), .int .i64 n] w fun e w' => e = .returned (confV (confO a b n)) ∧ Below w.heap.size w w' := by
  have HA : Hid ((B a).size ≤ maxLen) := Lib.hid (by rw [size_B]; have := (word_parts ha).2.1; unfold maxLen; omega)
  have HB : Hid ((B b).size ≤ maxLen) := Lib.hid (by rw [size_B]; have := (word_parts hb).2.1; unfold maxLen; omega)
  have HWA : Hid (wordB (B a).data.toList = true) := Lib.hid (by rw [L_B]; exact ha)
  have HWB : Hid (wordB (B b).data.toList = true) := Lib.hid (by rw [L_B]; exact hb)
  have HFN : Hid (faultsE n = 0) := Lib.hid (by unfold faultsE; rw [if_neg (by omega)])
  have HWA2 := Lib.hid ha
  have HWB2 := Lib.hid hb
  have HE := Lib.hid hE
  have HSA := Lib.hid (signal_short ha)
  have HSB := Lib.hid (signal_short hb)
  clear ha hb hE
  go_enter Tryz.func14, Tryz.ntmps14
  go_wp2_with fail
  refine (word_any _ _ HA.out).mono ?_
  rintro e w' ⟨rfl, rfl⟩
  rw [HWA.out]
  go_wp2_with fail
  refine (word_any _ _ HB.out).mono ?_
  rintro e w' ⟨rfl, rfl⟩
  rw [HWB.out]
  go_wp2_with fail
  refine (checkFaults_any _ _).mono ?_
  rintro e w' ⟨rfl, rfl⟩
  rw [HFN.out]
  go_wp2_with fail
  refine (received_any a n _ HWA2.out hn HE.out).mono ?_
  rintro e w1 ⟨ra, ca, rfl, hrow, hb1⟩
  obtain ⟨r1, r2, r3⟩ := res_rows hrow
  have hla := outL_le (signalL a) n HSA.out hn
  have hla2 := tidy_len (outL (signalL a) n)
  have HR := Lib.hid (And.intro r1 (And.intro r2 r3))
  have HB1 := Lib.hid hb1
  have HLA : Hid ((resL (signalL a) n).length ≤ 1000000) := Lib.hid (by unfold resL; omega)
  clear hrow hb1 r1 r2 r3 hla hla2
  go_wp2_with fail
  refine (received_any b n _ HWB2.out hn (HE.out.below HB1.out)).mono ?_
  rintro e w2 ⟨rb, cb, rfl, hrow, hb2⟩
  obtain ⟨q1, q2, q3⟩ := res_rows hrow
  have hlb := outL_le (signalL b) n HSB.out hn
  have hlb2 := tidy_len (outL (signalL b) n)
  have HQ := Lib.hid (And.intro q1 (And.intro q2 q3))
  have HLB : Hid ((resL (signalL b) n).length ≤ 1000000) := Lib.hid (by unfold resL; omega)
  have HB2 := Lib.hid (HB1.out.trans (hb2.mono HB1.out.size))
  have HR3 : Hid (∀ i, i < (resL (signalL a) n).length → w2.cell? ⟨ra, i, none⟩ = some (.string (B ((resL (signalL a) n).getD i [])))) := Lib.hid (fun i hi => (hb2.cell (p := ⟨ra, i, none⟩) HR.out.1).trans (HR.out.2.2 i hi))
  have HR1 : Hid (ra < w2.heap.size) := Lib.hid (Nat.lt_of_lt_of_le HR.out.1 hb2.size)
  clear hrow hb2 q1 q2 q3 hlb hlb2
  go_wp2_with fail
  refine (firstShared_any ra rb ca cb (resL (signalL a) n) (resL (signalL b) n) w2 (tidy_strict _).1 (tidy_strict _).1 HR1.out HQ.out.1 HR.out.2.1 HQ.out.2.1 HR3.out HQ.out.2.2 HLA.out HLB.out).mono ?_
  rintro e w3 ⟨rfl, hb3⟩
  have HB3 := Lib.hid (HB2.out.trans (hb3.mono HB2.out.size))
  clear hb3
  have HO : Hid (confO a b n = shareO (resL (signalL a) n) (resL (signalL b) n)) := Lib.hid rfl
  cases ho : shareO (resL (signalL a) n) (resL (signalL b) n) with
  | none =>
    have HV : Hid (confV (confO a b n) = .tuple #[.string ⟨#[]⟩, .bool false, .int .i64 0]) := Lib.hid (by rw [HO.out, ho]; rfl)
    rw [show shareV none = .tuple #[.string ⟨#[]⟩, .bool false] from rfl]
    clear ho
    go_wp2_with fail
    go_ret3
    exact ⟨ret_val HV.out.symm, HB3.out⟩
  | some x =>
    have HV : Hid (confV (confO a b n) = .tuple #[.string (B x), .bool true, .int .i64 0]) := Lib.hid (by rw [HO.out, ho]; rfl)
    rw [show shareV (some x) = .tuple #[.string (B x), .bool true] from rfl]
    clear ho
    go_wp2_with fail
    go_ret3
    exact ⟨ret_val HV.out.symm, HB3.out⟩
end Go.Proofs.YtjbdmlpadoiicaaGreatDoor
