/- The reference's meet and Confused, and beam's Confused with a wrong number of faults. -/
import Derived.Test.YtjbdmlpadoiicaaGreatDoorW5
import Derived.Test.YtjbdmlpadoiicaaGreatDoorP6b
import Derived.Test.YtjbdmlpadoiicaaGreatDoorS1
set_option linter.unusedVariables false
set_option linter.unusedSimpArgs false
namespace Go.Proofs.YtjbdmlpadoiicaaGreatDoor
open Go.RowKit Go.Shelf

theorem resE_word {a : List UInt8} (ha : wordB a = true) {n : Nat} (hn : n ≤ 2) : resE (signalL a) n = 0 := by
  unfold resE orI; rw [if_pos (signal_flash ha)]; unfold faultsE; rw [if_neg (by omega)]
theorem res_le {a : List UInt8} (ha : wordB a = true) {n : Nat} (hn : n ≤ 2) : (resL (signalL a) n).length ≤ 1000000 := by
  have h1 := outL_le (signalL a) n (signal_short ha) hn
  have h2 := tidy_len (outL (signalL a) n)
  unfold resL; omega

theorem texts_field (g : Option Addr) (n c : Nat) (e : Int) (W : World) : (Instr.field 141 (.agg #[.slice g n c, .int .i64 e]) 0).run Tryz.prog W = .ok (.slice g n c) W := by kernel_rfl
set_option maxRecDepth 100000 in
set_option maxHeartbeats 4000000 in
theorem meet_any (a b : List UInt8) (n : Nat) (w : World) (ha : wordB a = true) (hb : wordB b = true) (hn : n ≤ 2) :
    Calls Tryz.prog 50 #[.string (B a), .string (B b), .int .i64 n] w fun e w' => e = .returned (shareV (confO a b n)) ∧ Below w.heap.size w w' := by
  have HA : Hid ((B a).size ≤ maxLen) := Lib.hid (by rw [size_B]; have := (word_parts ha).2.1; unfold maxLen; omega)
  have HB : Hid ((B b).size ≤ maxLen) := Lib.hid (by rw [size_B]; have := (word_parts hb).2.1; unfold maxLen; omega)
  have SA : Hid (signalV (B a).data.toList = .tuple #[.string (B (signalL a)), .int .i64 0]) := Lib.hid (by rw [L_B]; unfold signalV; rw [if_pos ha])
  have SB : Hid (signalV (B b).data.toList = .tuple #[.string (B (signalL b)), .int .i64 0]) := Lib.hid (by rw [L_B]; unfold signalV; rw [if_pos hb])
  have RA := Lib.hid (resE_word ha hn)
  have RB := Lib.hid (resE_word hb hn)
  have LA := Lib.hid (res_le ha hn)
  have LB := Lib.hid (res_le hb hn)
  have HO : Hid (confO a b n = shareO (resL (signalL a) n) (resL (signalL b) n)) := Lib.hid rfl
  obtain ⟨sa, esa⟩ : ∃ sa, signalL a = sa := ⟨_, rfl⟩
  obtain ⟨sb, esb⟩ : ∃ sb, signalL b = sb := ⟨_, rfl⟩
  rw [esa] at SA RA LA HO
  rw [esb] at SB RB LB HO
  have TA : Hid (Strict (resL sa n)) := Lib.hid (tidy_strict _).1
  have TB : Hid (Strict (resL sb n)) := Lib.hid (tidy_strict _).1
  clear ha hb esa esb
  have hfld := texts_field
  go_enter Tryz.func50, Tryz.ntmps50
  go_wp2_with fail
  refine (rsignal_any _ _ HA.out).mono ?_
  rintro e w1 ⟨rfl, hb1⟩
  rw [SA.out]
  have HB1 := Lib.hid hb1
  clear hb1
  go_wp2_with fail
  refine (rsignal_any _ _ HB.out).mono ?_
  rintro e w2 ⟨rfl, hb2⟩
  rw [SB.out]
  have HB2 := Lib.hid (HB1.out.trans (hb2.mono HB1.out.size))
  clear hb2
  go_wp2_with fail
  refine (rResults_ok sa n _ RA.out).mono ?_
  rintro e w3 ⟨v, rfl, hT, hb3⟩
  have HB3 := Lib.hid (HB2.out.trans (hb3.mono HB2.out.size))
  obtain ⟨a', ea⟩ : ∃ l, resL sa n = l := ⟨_, rfl⟩
  rw [ea] at hT LA HO TA
  obtain ⟨ra, oa, ca, rfl, hca, hra, ka⟩ := hT
  have HKA := Lib.hid ka
  clear hb3 ka ea
  unfold textsA
  go_wp2_with fail
  refine (rResults_ok sb n _ RB.out).mono ?_
  rintro e w4 ⟨v, rfl, hT, hb4⟩
  have HB4 := Lib.hid (HB3.out.trans (hb4.mono HB3.out.size))
  have HKA2 : Hid (∀ i, i < a'.length → w4.cell? ⟨ra, oa + i, none⟩ = some (.string (B (a'.getD i [])))) := Lib.hid (fun i hi => (hb4.cell (p := ⟨ra, _, none⟩) hra).trans (HKA.out i hi))
  have hra4 : ra < w4.heap.size := Nat.lt_of_lt_of_le hra hb4.size
  obtain ⟨b', eb⟩ : ∃ l, resL sb n = l := ⟨_, rfl⟩
  rw [eb] at hT LB HO TB
  obtain ⟨rb, ob, cb, rfl, hcb, hrb, kb⟩ := hT
  have HKB := Lib.hid kb
  clear hb4 kb eb HKA hra
  have hal := LA.out
  have hbl := LB.out
  unfold textsA
  go_wp2_with fail
  go_loopw [12, 13] (fun u v wr => ∃ (i j i' j' cA cB : Nat) (A Bl : List (List UInt8)), u = .slice (some ⟨ra, i', none⟩) A.length cA ∧ v = .slice (some ⟨rb, j', none⟩) Bl.length cB ∧ A.length ≤ cA ∧ Bl.length ≤ cB ∧ A.length ≤ 1000000 ∧ Bl.length ≤ 1000000 ∧
      Hid ((A ≠ [] → i' = oa + i) ∧ a'.drop i = A ∧ Strict A) ∧ Hid ((Bl ≠ [] → j' = ob + j) ∧ b'.drop j = Bl ∧ Strict Bl) ∧ Hid (shareO A Bl = shareO a' b') ∧ Hid (Below w4.heap.size w4 wr)) (fun u v _ => sliceLen u + sliceLen v)
  case atStart => exact ⟨0, 0, oa, ob, ca, cb, a', b', rfl, rfl, hca, hcb, hal, hbl, Lib.hid ⟨fun _ => rfl, rfl, TA.out⟩, Lib.hid ⟨fun _ => rfl, rfl, TB.out⟩, Lib.hid rfl, Lib.hid (Below.refl _ _)⟩
  case round =>
    obtain ⟨i, j, i', j', cA, cB, A, Bl, rfl, rfl, hcA, hcB, hAl, hBl, hA, hBs, hsh, hBw⟩ := hrel
    have HE4 : Hid (Below w.heap.size w wr) := Lib.hid (HB4.out.trans (hBw.out.mono HB4.out.size))
    cases A with
    | nil =>
      have HV : Hid (shareV (confO a b n) = .tuple #[.string ⟨#[]⟩, .bool false]) := Lib.hid (by rw [HO.out, ← hsh.out]; rfl)
      go_wp2_with fail
      go_ret2
      exact ⟨ret_val HV.out.symm, HE4.out⟩
    | cons x A =>
      cases Bl with
      | nil =>
        have HV : Hid (shareV (confO a b n) = .tuple #[.string ⟨#[]⟩, .bool false]) := Lib.hid (by rw [HO.out, ← hsh.out, share_nil_right]; rfl)
        simp only [List.length_cons] at hcA hAl ⊢
        have hpa : (0 : Int) < (A.length : Int) + 1 := by omega
        go_wp2_with fail
        go_ret2
        exact ⟨ret_val HV.out.symm, HE4.out⟩
      | cons y Bl =>
        obtain ⟨e1, e2, e3⟩ := hA.out
        obtain ⟨d1, d2, d3⟩ := hBs.out
        obtain rfl : i' = oa + i := e1 (by simp)
        obtain rfl : j' = ob + j := d1 (by simp)
        obtain ⟨gi, hx, da⟩ := getD_drop0 e2
        obtain ⟨gj, hy, db⟩ := getD_drop0 d2
        have ca0 : wr.cell? ⟨ra, oa + i, none⟩ = some (.string (B x)) := by rw [← hx]; exact (hBw.out.cell (p := ⟨ra, _, none⟩) hra4).trans (HKA2.out i gi)
        have cb0 : wr.cell? ⟨rb, ob + j, none⟩ = some (.string (B y)) := by rw [← hy]; exact (hBw.out.cell (p := ⟨rb, _, none⟩) hrb).trans (HKB.out j gj)
        simp only [List.length_cons] at hcA hcB hAl hBl ⊢
        have hpa : (0 : Int) < (A.length : Int) + 1 := by omega
        have hpb : (0 : Int) < (Bl.length : Int) + 1 := by omega
        have hs1 := fun W => slice1_run W ra (oa + i) A.length cA hcA
        have hs2 := fun W => slice1_run W rb (ob + j) Bl.length cB hcB
        have HDA := Lib.hid da; have HDB := Lib.hid db; have HE3 := Lib.hid e3; have HD3 := Lib.hid d3
        clear e1 e2 e3 d1 d2 d3 gi gj hx hy da db
        by_cases heq : x = y
        · have he : (x == y) = true := by simpa using heq
          have HV : Hid (shareV (confO a b n) = .tuple #[.string (B x), .bool true]) := Lib.hid (by rw [HO.out, ← hsh.out, ← heq, share_eq]; rfl)
          clear heq
          go_wp2_with fail
          go_quiet (fail)
          go_wp2_with fail
          go_ret2
          exact ⟨ret_val HV.out.symm, below_drewN HE4.out _⟩
        · have he : (x == y) = false := by simpa using heq
          by_cases hlt : x < y
          · have hq : Op.bytesLess x y = true := by rw [bless]; exact decide_eq_true hlt
            have HSH := Lib.hid ((share_lt (a := A) HD3.out hlt).symm.trans hsh.out)
            clear hlt heq
            go_wp2_with fail
            go_quiet (fail)
            go_wp2_with fail
            go_quiet (fail)
            go_wp2_with fail
            go_roundw
            case rel => exact ⟨i + 1, j, _, ob + j, cA - 1, cB, A, y :: Bl, rfl, rfl, by omega, by simpa using hcB, by omega, by simpa using hBl, Lib.hid ⟨fun h => by rw [if_neg (by have := List.length_pos_iff.2 h; omega)]; omega, HDA.out, HE3.out.tail⟩, Lib.hid ⟨fun _ => rfl, hBs.out.2⟩, HSH, Lib.hid (below_drewN hBw.out _)⟩
            case measure => simp [sliceLen]
          · have hq : Op.bytesLess x y = false := by rw [bless]; exact decide_eq_false hlt
            have hgt : y < x := lt_of_le_ne (List.not_lt.1 hlt) (Ne.symm heq)
            have HSH := Lib.hid ((share_gt (b := Bl) HE3.out hgt).symm.trans hsh.out)
            clear hlt heq hgt
            go_wp2_with fail
            go_quiet (fail)
            go_wp2_with fail
            go_quiet (fail)
            go_wp2_with fail
            go_roundw
            case rel => exact ⟨i, j + 1, oa + i, _, cA, cB - 1, x :: A, Bl, rfl, rfl, by simpa using hcA, by omega, by simpa using hAl, by omega, Lib.hid ⟨fun _ => rfl, hA.out.2⟩, Lib.hid ⟨fun h => by rw [if_neg (by have := List.length_pos_iff.2 h; omega)]; omega, HDB.out, HD3.out.tail⟩, HSH, Lib.hid (below_drewN hBw.out _)⟩
            case measure => simp [sliceLen]

theorem rConfused_no (a b : List UInt8) (n : Int) (w : World) (ha : a.length ≤ maxLen) (hb : b.length ≤ maxLen) (h : wordB a = false ∨ wordB b = false) :
    Calls Tryz.prog 15 #[.string (B a), .string (B b), .int .i64 n] w fun e w' => e = .returned (.agg #[.string ⟨#[]⟩, .bool false, .int .i64 7]) ∧ Below w.heap.size w w' := by
  have HA : Hid ((B a).size ≤ maxLen) := Lib.hid (by rw [size_B]; exact ha)
  have HB : Hid ((B b).size ≤ maxLen) := Lib.hid (by rw [size_B]; exact hb)
  cases hwa : wordB a
  · have HW : Hid (wordB (B a).data.toList = false) := Lib.hid (by rw [L_B]; exact hwa)
    clear hwa h ha hb
    go_enter Tryz.func15, Tryz.ntmps15
    go_wp2_with fail
    refine (rword_any _ _ HA.out).mono ?_
    rintro e w' ⟨rfl, rfl⟩
    rw [HW.out]
    go_wp2_with fail
    refine bodyPost_ret (v := .agg #[.string ⟨#[]⟩, .bool false, .int .i64 7]) ?_ rfl ⟨rfl, ?_⟩
    · simp [results, Tryz.results15, go_sem]
    · exact (Below.refl _ w).alloc (Nat.le_refl _) _
  · have hwb : wordB b = false := by rcases h with h | h
                                     · rw [hwa] at h; cases h
                                     · exact h
    have HW : Hid (wordB (B a).data.toList = true) := Lib.hid (by rw [L_B]; exact hwa)
    have HW2 : Hid (wordB (B b).data.toList = false) := Lib.hid (by rw [L_B]; exact hwb)
    clear hwa hwb h ha hb
    go_enter Tryz.func15, Tryz.ntmps15
    go_wp2_with fail
    refine (rword_any _ _ HA.out).mono ?_
    rintro e w' ⟨rfl, rfl⟩
    rw [HW.out]
    go_wp2_with fail
    refine (rword_any _ _ HB.out).mono ?_
    rintro e w' ⟨rfl, rfl⟩
    rw [HW2.out]
    go_wp2_with fail
    refine bodyPost_ret (v := .agg #[.string ⟨#[]⟩, .bool false, .int .i64 7]) ?_ rfl ⟨rfl, ?_⟩
    · simp [results, Tryz.results15, go_sem]
    · exact (Below.refl _ w).alloc (Nat.le_refl _) _

theorem rConfused_arg (a b : List UInt8) (n : Int) (w : World) (ha : wordB a = true) (hb : wordB b = true) (hn : faultsE n ≠ 0) :
    Calls Tryz.prog 15 #[.string (B a), .string (B b), .int .i64 n] w fun e w' => e = .returned (.agg #[.string ⟨#[]⟩, .bool false, .int .i64 1]) ∧ Below w.heap.size w w' := by
  have HA : Hid ((B a).size ≤ maxLen) := Lib.hid (by rw [size_B]; have := (word_parts ha).2.1; unfold maxLen; omega)
  have HB : Hid ((B b).size ≤ maxLen) := Lib.hid (by rw [size_B]; have := (word_parts hb).2.1; unfold maxLen; omega)
  have HW : Hid (wordB (B a).data.toList = true) := Lib.hid (by rw [L_B]; exact ha)
  have HW2 : Hid (wordB (B b).data.toList = true) := Lib.hid (by rw [L_B]; exact hb)
  have HF : Hid (decide (faultsE n = 0) = false) := Lib.hid (decide_eq_false hn)
  clear ha hb hn
  go_enter Tryz.func15, Tryz.ntmps15
  go_wp2_with fail
  refine (rword_any _ _ HA.out).mono ?_
  rintro e w' ⟨rfl, rfl⟩
  rw [HW.out]
  go_wp2_with fail
  refine (rword_any _ _ HB.out).mono ?_
  rintro e w' ⟨rfl, rfl⟩
  rw [HW2.out]
  go_wp2_with fail
  refine (rfew_any _ _).mono ?_
  rintro e w' ⟨rfl, rfl⟩
  rw [HF.out]
  go_wp2_with fail
  refine bodyPost_ret (v := .agg #[.string ⟨#[]⟩, .bool false, .int .i64 1]) ?_ rfl ⟨rfl, ?_⟩
  · simp [results, Tryz.results15, go_sem]
  · exact (Below.refl _ w).alloc (Nat.le_refl _) _

theorem shareV_form (o : Option (List UInt8)) : ∃ (x : ByteArray) (is : Bool), shareV o = .tuple #[.string x, .bool is] ∧ confV o = .tuple #[.string x, .bool is, .int .i64 0] := by
  cases o with
  | none => exact ⟨_, _, rfl, rfl⟩
  | some x => exact ⟨_, _, rfl, rfl⟩

theorem rConfused_ok (a b : List UInt8) (n : Nat) (w : World) (ha : wordB a = true) (hb : wordB b = true) (hn : n ≤ 2) (x : ByteArray) (is : Bool) (hx : shareV (confO a b n) = .tuple #[.string x, .bool is]) :
    Calls Tryz.prog 15 #[.string (B a), .string (B b), .int .i64 n] w fun e w' => e = .returned (.agg #[.string x, .bool is, .int .i64 0]) ∧ Below w.heap.size w w' := by
  have HA : Hid ((B a).size ≤ maxLen) := Lib.hid (by rw [size_B]; have := (word_parts ha).2.1; unfold maxLen; omega)
  have HB : Hid ((B b).size ≤ maxLen) := Lib.hid (by rw [size_B]; have := (word_parts hb).2.1; unfold maxLen; omega)
  have HW : Hid (wordB (B a).data.toList = true) := Lib.hid (by rw [L_B]; exact ha)
  have HW2 : Hid (wordB (B b).data.toList = true) := Lib.hid (by rw [L_B]; exact hb)
  have HF : Hid (decide (faultsE n = 0) = true) := Lib.hid (decide_eq_true (by unfold faultsE; rw [if_neg (by omega)]))
  have HM := Lib.hid (fun W => meet_any a b n W ha hb hn)
  have HX := Lib.hid hx
  clear ha hb hn hx
  go_enter Tryz.func15, Tryz.ntmps15
  go_wp2_with fail
  refine (rword_any _ _ HA.out).mono ?_
  rintro e w' ⟨rfl, rfl⟩
  rw [HW.out]
  go_wp2_with fail
  refine (rword_any _ _ HB.out).mono ?_
  rintro e w' ⟨rfl, rfl⟩
  rw [HW2.out]
  go_wp2_with fail
  refine (rfew_any _ _).mono ?_
  rintro e w' ⟨rfl, rfl⟩
  rw [HF.out]
  go_wp2_with fail
  refine (HM.out _).mono ?_
  rintro e w1 ⟨rfl, hb⟩
  rw [HX.out]
  have hc1 : w1.heap[w.heap.size]? = some (.cells #[.string ⟨#[]⟩, .bool false, .int .i64 0] 38 (0, 0)) := (hb.block _ (by simp)).trans (World.alloc_heap_new w _)
  have hd0 : w1.cell? ⟨w.heap.size, 0, none⟩ = some (.string ⟨#[]⟩) := cell_of_heap hc1 0
  have hd1 : w1.cell? ⟨w.heap.size, 1, none⟩ = some (.bool false) := cell_of_heap hc1 1
  have hd2 : w1.cell? ⟨w.heap.size, 2, none⟩ = some (.int .i64 0) := cell_of_heap hc1 2
  have g0 := free_of_heap hc1 0
  have g1 := free_of_heap hc1 1
  have g2 := free_of_heap hc1 2
  have HB1 : Hid (Below w.heap.size w w1) := Lib.hid (((Below.refl _ w).alloc (Nat.le_refl _) _).trans (hb.mono (by simp)))
  clear hb hc1
  go_wp2_with fail
  refine bodyPost_ret (v := .agg #[.string x, .bool is, .int .i64 0]) ?_ rfl ⟨rfl, ?_⟩
  · simp [results, Tryz.results15, go_sem, hd0, hd1, hd2]
  · exact ((HB1.out.setCell (p := ⟨w.heap.size, 0, none⟩) (Nat.le_refl _) _).setCell (p := ⟨w.heap.size, 1, none⟩) (Nat.le_refl _) _).setCell (p := ⟨w.heap.size, 2, none⟩) (Nat.le_refl _) _

theorem Confused_arg (a b : List UInt8) (n : Int) (w : World) (ha : wordB a = true) (hb : wordB b = true) (hn : faultsE n = 1) :
    Calls Tryz.prog 14 #[.string (B a), .string (B b), .int .i64 n] w fun e w' => e = .returned (.tuple #[.string ⟨#[]⟩, .bool false, .int .i64 1]) ∧ w = w' := by
  have HA : Hid ((B a).size ≤ maxLen) := Lib.hid (by rw [size_B]; have := (word_parts ha).2.1; unfold maxLen; omega)
  have HB : Hid ((B b).size ≤ maxLen) := Lib.hid (by rw [size_B]; have := (word_parts hb).2.1; unfold maxLen; omega)
  have HW : Hid (wordB (B a).data.toList = true) := Lib.hid (by rw [L_B]; exact ha)
  have HW2 : Hid (wordB (B b).data.toList = true) := Lib.hid (by rw [L_B]; exact hb)
  have HF := Lib.hid hn
  clear ha hb hn
  go_enter Tryz.func14, Tryz.ntmps14
  go_wp2_with fail
  refine (word_any _ _ HA.out).mono ?_
  rintro e w' ⟨rfl, rfl⟩
  rw [HW.out]
  go_wp2_with fail
  refine (word_any _ _ HB.out).mono ?_
  rintro e w' ⟨rfl, rfl⟩
  rw [HW2.out]
  go_wp2_with fail
  refine (checkFaults_any _ _).mono ?_
  rintro e w' ⟨rfl, rfl⟩
  rw [HF.out]
  go_wp2_with fail
  go_ret3
  exact ⟨rfl, rfl⟩

theorem conf_both (a b : List UInt8) (n : Int) (ha : a.length ≤ maxLen) (hb : b.length ≤ maxLen) : ∃ (x : ByteArray) (is : Bool) (q : Int),
    (∀ W, Env W → Calls Tryz.prog 14 #[.string (B a), .string (B b), .int .i64 n] W fun e w' => e = .returned (.tuple #[.string x, .bool is, .int .i64 q]) ∧ Below W.heap.size W w') ∧
    (∀ W, Calls Tryz.prog 15 #[.string (B a), .string (B b), .int .i64 n] W fun e w' => e = .returned (.agg #[.string x, .bool is, .int .i64 q]) ∧ Below W.heap.size W w') := by
  by_cases hw : wordB a = true ∧ wordB b = true
  · obtain ⟨wa, wb⟩ := hw
    by_cases hf : faultsE n = 0
    · obtain ⟨m, rfl⟩ : ∃ m : Nat, n = m := ⟨n.toNat, by unfold faultsE at hf; split at hf <;> omega⟩
      have hm : m ≤ 2 := by unfold faultsE at hf; split at hf <;> omega
      obtain ⟨x, is, h1, h2⟩ := shareV_form (confO a b m)
      refine ⟨x, is, 0, fun W hW => ?_, fun W => rConfused_ok a b m W wa wb hm x is h1⟩
      rw [← h2]; exact Confused_ok a b m W wa wb hm hW
    · have hf1 : faultsE n = 1 := by unfold faultsE at hf ⊢; split at hf <;> simp_all
      refine ⟨⟨#[]⟩, false, 1, fun W _ => (Confused_arg a b n W wa wb hf1).mono ?_, fun W => rConfused_arg a b n W wa wb hf⟩
      rintro e w' ⟨rfl, rfl⟩
      exact ⟨rfl, Below.refl _ _⟩
  · have hno : wordB a = false ∨ wordB b = false := by
      cases h1 : wordB a
      · exact .inl rfl
      · cases h2 : wordB b
        · exact .inr rfl
        · exact absurd ⟨h1, h2⟩ hw
    refine ⟨⟨#[]⟩, false, 7, fun W _ => (Confused_no a b n W ha hb hno).mono ?_, fun W => rConfused_no a b n W ha hb hno⟩
    rintro e w' ⟨rfl, rfl⟩
    exact ⟨rfl, Below.refl _ _⟩
end Go.Proofs.YtjbdmlpadoiicaaGreatDoor
