/- The reference of layer 2: Check. -/
import Derived.Test.YtiboolbndfhomaaNC3
set_option linter.unusedVariables false
set_option linter.unusedSimpArgs false
namespace Go.Proofs.Ytiboolbndfhomaa
open Go.RowKit

theorem inB_st (st a : Int) : inB a 0 (st - 1) = stB st a := by
  unfold inB stB
  congr 1
  by_cases h : a < st
  · rw [decide_eq_true h, decide_eq_true (by omega)]
  · rw [decide_eq_false h, decide_eq_false (by omega)]
set_option maxRecDepth 100000 in
set_option maxHeartbeats 4000000 in
theorem rCheck_any (st : Int) (o : Value) (ls : List Lk) (w : World) (hv : NRow w o ls) (hst : -9223372036854775808 ≤ st ∧ st ≤ 9223372036854775807) :
    Calls Try.prog 17 #[ntV st o] w fun e w' => e = .returned (.int .i64 (netE st ls)) ∧ Below w.heap.size w w' := by
  obtain ⟨a, cap, rfl, hc⟩ := hv.row.form
  have HC := Lib.hid hc
  have HL := Lib.hid hv.op
  have hll := hv.len
  have HB0 := Lib.hid ((Below.refl _ w).alloc (Nat.le_refl w.heap.size) (.cells #[.int .i64 st, .slice a ls.length cap] 24))
  have HNc := Lib.hid (fun W => net_cells w st (.slice a ls.length cap) (W := W))
  have HW0 := Lib.hid (fun w' => rwithin_any st 1 10 w')
  clear hc hv
  unfold ntV
  by_cases h1 : inB st 1 10 = true
  case neg =>
    have h1' : inB st 1 10 = false := by simpa using h1
    have HV : Hid (netE st ls = 1) := Lib.hid (by
      unfold netE; rw [if_pos]
      unfold inB at h1
      simp only [Bool.and_eq_true, decide_eq_true_eq] at h1
      omega)
    rw [h1'] at HW0
    clear h1 h1'
    go_enter Try.func17, Try.ntmps17
    go_wp2_with fail
    refine (HW0.out _).mono ?_
    rintro e w1 ⟨rfl, rfl⟩
    go_wp2_with fail
    go_ret
    exact ⟨ret_int' HV.out.symm, HB0.out⟩
  have hs : 1 ≤ st ∧ st ≤ 10 := by
    unfold inB at h1
    simp only [Bool.and_eq_true, decide_eq_true_eq] at h1
    exact h1
  obtain ⟨hs1, hs2⟩ := hs
  rw [h1] at HW0
  clear h1
  by_cases h3 : 40 < ls.length
  · have HV : Hid (netE st ls = 2) := Lib.hid (by unfold netE; rw [if_neg (by omega), if_pos h3])
    have g3 : (40 : Int) < ls.length := by omega
    go_enter Try.func17, Try.ntmps17
    go_wp2_with fail
    refine (HW0.out _).mono ?_
    rintro e w1 ⟨rfl, rfl⟩
    go_wp2_with fail
    go_ret
    exact ⟨ret_int' HV.out.symm, HB0.out⟩
  have g3 : ¬ (40 : Int) < ls.length := by omega
  have HV : Hid (netE st ls = netL st ls) := Lib.hid (by unfold netE; rw [if_neg (by omega), if_neg h3])
  clear h3
  go_enter Try.func17, Try.ntmps17
  go_wp2_with fail
  refine (HW0.out _).mono ?_
  rintro e w1 ⟨rfl, rfl⟩
  go_wp2_with fail
  go_loopw [4] (fun i wr => ∃ (k : Nat), k ≤ ls.length ∧ i = .int .i64 k ∧ Hid (netL st ls = netL st (ls.drop k)) ∧ Hid (Below (w.alloc (.cells #[.int .i64 st, .slice a ls.length cap] 24)).heap.size (w.alloc (.cells #[.int .i64 st, .slice a ls.length cap] 24)) wr)) (fun i _ => ls.length - (intOf i).toNat)
  case atStart => exact ⟨0, Nat.zero_le _, rfl, Lib.hid rfl, Lib.hid (Below.refl _ _)⟩
  case round =>
    obtain ⟨k, hk, rfl, hT, hB1⟩ := hrel
    obtain ⟨s0, s1, hsz, hB⟩ := HNc.out wr hB1.out
    have HB := Lib.hid hB
    have hnz : w.heap.size ≠ wr.heap.size := by omega
    by_cases hkl : k < ls.length
    · obtain ⟨b, off, rfl, hb, c0, c1, c2, ov, c3, hsp⟩ := HC.out k hkl
      have hki : (k : Int) < ls.length := by omega
      have hk0 : (0 : Int) ≤ k := by omega
      have e0 := (hB.cell (p := ⟨b, _, none⟩) hb).trans c0
      have e1 := (hB.cell (p := ⟨b, _, none⟩) hb).trans c1
      have e2 := (hB.cell (p := ⟨b, _, none⟩) hb).trans c2
      have e3 := (hB.cell (p := ⟨b, _, none⟩) hb).trans c3
      have hD : Hid (netL st (ls.drop k) = if endsB st (ls.getD k .nil) = true then (if linkE (ls.getD k .nil) = 0 then netL st (ls.drop (k + 1)) else linkE (ls.getD k .nil)) else 1) := Lib.hid (by rw [ldrop_at hkl]; rfl)
      have hlo := HL.out _ (lk_mem hkl)
      have hsp1 := hsp.keep hB
      obtain ⟨x, hx⟩ : ∃ x, ls.getD k .nil = x := ⟨_, rfl⟩
      rw [hx] at e0 e1 e2 hD hlo hsp1
      have HCK := Lib.hid (fun w' (h : Below wr.heap.size wr w') => rlinked_any x ov w' (hsp1.keep h) hlo)
      obtain ⟨fr, to, dl, op⟩ := x
      obtain ⟨oa, ocap, rfl, _⟩ := hsp1.form
      unfold lkV at HCK
      have HEB : Hid (endsB st ⟨fr, to, dl, op⟩ = (stB st fr && stB st to && decide (fr ≠ to))) := Lib.hid rfl
      simp only at e0 e1 e2 e3
      have HCK' : Hid (∀ w', Below wr.heap.size wr w' → Calls Try.prog 36 #[.agg #[.int .i64 fr, .int .i64 to, .int .i64 dl, .slice oa op.length ocap]] w' fun e w'' => e = .returned (.int .i64 (linkE ⟨fr, to, dl, op⟩)) ∧ Below w'.heap.size w' w'') := HCK
      have HI := Lib.hid (fun a' w' => rwithin_any a' 0 (st - 1) w')
      simp only [inB_st] at HI
      have hws : IntKind.i64.wrap (st - 1) = st - 1 := IntWalk.i64_in _ (by omega)
      have hwA : Below wr.heap.size wr (wr.alloc (.cells #[.int .i64 fr, .int .i64 to, .int .i64 dl, .slice oa op.length ocap] 27)) := (Below.refl _ wr).alloc (Nat.le_refl _) _
      have HwA := Lib.hid hwA
      have HBA := Lib.hid (hB.trans (hwA.mono hB.size))
      have HBA1 := Lib.hid (hB1.out.trans (hwA.mono hB1.out.size))
      have HI1 := Lib.hid (fun w' => HI.out fr w')
      have HI2 := Lib.hid (fun w' => HI.out to w')
      clear c0 c1 c2 c3 hb hx hsp hlo hsp1 hB hwA HCK HI
      cases h1 : stB st fr
      · rw [h1] at HI1
        have HN : Hid (netE st ls = 1) := Lib.hid (by rw [HV.out, hT.out, hD.out, HEB.out, h1]; rfl)
        clear hD h1
        go_wp2_with fail
        refine (HI1.out _).mono ?_
        rintro e w4 ⟨rfl, rfl⟩
        go_wp2_with fail
        refine (HI2.out _).mono ?_
        rintro e w4 ⟨rfl, rfl⟩
        go_wp2_with fail
        go_ret
        exact ⟨ret_int' HN.out.symm, HBA.out⟩
      rw [h1] at HI1
      cases h2 : stB st to
      · rw [h2] at HI2
        have HN : Hid (netE st ls = 1) := Lib.hid (by rw [HV.out, hT.out, hD.out, HEB.out, h1, h2]; rfl)
        clear hD h1 h2
        go_wp2_with fail
        refine (HI1.out _).mono ?_
        rintro e w4 ⟨rfl, rfl⟩
        go_wp2_with fail
        refine (HI2.out _).mono ?_
        rintro e w4 ⟨rfl, rfl⟩
        go_wp2_with fail
        go_ret
        exact ⟨ret_int' HN.out.symm, HBA.out⟩
      rw [h2] at HI2
      by_cases h3 : fr = to
      · have HN : Hid (netE st ls = 1) := Lib.hid (by rw [HV.out, hT.out, hD.out, HEB.out, h1, h2, decide_eq_false (p := fr ≠ to) (fun h => h h3)]; rfl)
        have hq : (fr == to) = true := by simpa using h3
        clear hD h1 h2 h3
        go_wp2_with fail
        refine (HI1.out _).mono ?_
        rintro e w4 ⟨rfl, rfl⟩
        go_wp2_with fail
        refine (HI2.out _).mono ?_
        rintro e w4 ⟨rfl, rfl⟩
        go_wp2_with fail
        go_ret
        exact ⟨ret_int' HN.out.symm, HBA.out⟩
      have hq : (fr == to) = false := by simpa using h3
      have HD2 : Hid (netL st ls = if linkE ⟨fr, to, dl, op⟩ = 0 then netL st (ls.drop (k + 1)) else linkE ⟨fr, to, dl, op⟩) := Lib.hid (by rw [hT.out, hD.out, HEB.out, h1, h2, decide_eq_true (p := fr ≠ to) h3]; rfl)
      clear hD h1 h2 h3
      by_cases h4 : linkE ⟨fr, to, dl, op⟩ = 0
      · have HN : Hid (netL st ls = netL st (ls.drop (k + 1))) := Lib.hid (by rw [HD2.out, if_pos h4])
        rw [h4] at HCK'
        clear h4 HD2
        go_wp2_with fail
        refine (HI1.out _).mono ?_
        rintro e w4 ⟨rfl, rfl⟩
        go_wp2_with fail
        refine (HI2.out _).mono ?_
        rintro e w4 ⟨rfl, rfl⟩
        go_wp2_with fail
        refine (HCK'.out _ HwA.out).mono ?_
        rintro e w6 ⟨rfl, hb6⟩
        have H6 := Lib.hid (HBA1.out.trans (hb6.mono HBA1.out.size))
        clear hb6
        go_wp2_with fail
        go_roundw
        case rel => exact ⟨k + 1, by omega, by go_num, HN, H6⟩
        case measure => simp [intOf]; omega
      · have HN : Hid (netE st ls = linkE ⟨fr, to, dl, op⟩) := Lib.hid (by rw [HV.out, HD2.out, if_neg h4])
        have hz : (linkE ⟨fr, to, dl, op⟩ != 0) = true := by simpa using h4
        obtain ⟨q, hqq⟩ : ∃ q, linkE ⟨fr, to, dl, op⟩ = q := ⟨_, rfl⟩
        rw [hqq] at HCK' HN hz
        clear h4 HD2 hqq
        go_wp2_with fail
        refine (HI1.out _).mono ?_
        rintro e w4 ⟨rfl, rfl⟩
        go_wp2_with fail
        refine (HI2.out _).mono ?_
        rintro e w4 ⟨rfl, rfl⟩
        go_wp2_with fail
        refine (HCK'.out _ HwA.out).mono ?_
        rintro e w6 ⟨rfl, hb6⟩
        have H6 := Lib.hid (HBA.out.trans (hb6.mono HBA.out.size))
        clear hb6
        go_wp2_with fail
        go_ret
        exact ⟨ret_int' HN.out.symm, H6.out⟩
    · obtain rfl : k = ls.length := by omega
      have HN : Hid (netE st ls = 0) := Lib.hid (by rw [HV.out, hT.out, List.drop_length]; rfl)
      go_wp2_with fail
      go_ret
      exact ⟨ret_int' HN.out.symm, HB.out⟩
end Go.Proofs.Ytiboolbndfhomaa
