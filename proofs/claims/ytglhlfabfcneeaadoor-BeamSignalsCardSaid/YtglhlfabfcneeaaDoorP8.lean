/- The reference's Read. -/
import Derived.Test.YtglhlfabfcneeaaDoorP7
namespace Go.Proofs.YtglhlfabfcneeaaDoor
open Go.RowKit Go.Shelf

theorem sentF_length : ∀ (s out code : List UInt8), (sentF s out code).1.length ≤ out.length + s.length
  | [], out, code => by simp [sentF]
  | b :: s, out, code => by
    by_cases hb : b = 47
    · subst hb
      rw [sentF_pause]
      split
      · simp
      · split
        · have := sentF_length s (out ++ [letterB code]) []; simp at this ⊢; omega
        · simp
    · rw [sentF_flash hb]; have := sentF_length s out (code ++ [b]); simp; omega
theorem mid_extract (l : List UInt8) (h : 4 ≤ l.length) : (B l).extract 1 (l.length - 2) = B (midL l) := by
  apply ext_L
  rw [L_B, ByteArray.data_extract, Array.toList_extract, L_B, List.extract]
  unfold midL
  rw [show l.length - 2 - 1 = l.length - 3 by omega]

set_option maxRecDepth 100000 in
set_option maxHeartbeats 1000000 in
theorem rread_any (sb : ByteArray) (w : World) (hsz : sb.size ≤ maxLen) :
    Calls Tryd.prog 26 #[.string sb] w fun e w' => e = .returned (readV sb.data.toList) ∧ Below w.heap.size w w' := by
  obtain ⟨s, rfl⟩ : ∃ s, sb = B s := ⟨_, (B_L sb).symm⟩
  rw [L_B]
  by_cases hf : flashE s 100 = 0
  · have hs100 := flashE_le' hf
    have HF : Hid (flashE (B s).data.toList 100 = 0) := Lib.hid (by rw [L_B]; exact hf)
    have hll := sentF_length s [] []
    have hsf := sent_form s
    obtain ⟨l, ok, hlo⟩ : ∃ l ok, sentP s = (l, ok) := ⟨_, _, rfl⟩
    have HSV : Hid (sentV (sentP s) = .tuple #[.string (B l), .bool ok]) := Lib.hid (by rw [hlo]; rfl)
    have hll2 : l.length ≤ s.length := by have : (sentP s).1.length ≤ s.length := by simpa [sentP] using hll
                                          rw [hlo] at this; exact this
    rw [hlo] at hsf
    simp only at hsf
    have hs1000 : s.length ≤ 1000 := by omega
    clear hll hlo
    rcases hsf with ⟨x, h1, h2, h3, h4, h5⟩ | ⟨h1, h2⟩
    · subst h2
      have hx : (B (midL l)).size ≤ maxLen := by rw [size_B]; have := (word_parts h4).2.1; unfold maxLen; omega
      have HX := Lib.hid hx
      have HW : Hid (wordB (B (midL l)).data.toList = true) := Lib.hid (by rw [L_B]; exact h4)
      have HS : Hid (signalV (B (midL l)).data.toList = .tuple #[.string (B (signalL (midL l))), .int .i64 0]) := Lib.hid (by rw [L_B]; exact (by unfold signalV; rw [if_pos h4]))
      have hsl : ∀ W', (Instr.slice 9 (.string (B l)) (some (.int .i64 1)) (some (.int .i64 ((l.length : Int) - 2))) none).run Tryd.prog W' = .ok (.string (B (midL l))) W' := fun W' =>
        sslice_run W' l _ 1 (l.length - 2) (by omega) (by omega) (mid_extract l h3) _ _ rfl (by omega)
      have h3i : decide ((l.length : Int) < 4) = false := decide_eq_false (by omega)
      by_cases he : signalL (midL l) = s
      · have HV : Hid (readV s = .tuple #[.string (B (midL l)), .int .i64 0]) := Lib.hid (readV_ok hf (h1.trans (by rw [h5])) he)
        rw [he] at HS
        clear hf h1 h4 h5 hx he
        go_enter Tryd.func26, Tryd.ntmps26
        go_wp2_with fail
        refine (rflashes_any _ _ _ hsz).mono ?_
        rintro e w' ⟨rfl, rfl⟩
        rw [HF.out]
        go_wp2_with fail
        refine (rsent_any _ _ hs1000).mono ?_
        rintro e w2 ⟨rfl, hb⟩
        rw [HSV.out]
        have HB := Lib.hid hb
        clear hb
        go_wp2_with fail
        refine (rword_any _ _ HX.out).mono ?_
        rintro e w' ⟨rfl, rfl⟩
        rw [HW.out]
        go_wp2_with fail
        refine (rsignal_any _ _ HX.out).mono ?_
        rintro e w3 ⟨rfl, hb⟩
        rw [HS.out]
        have HB2 := Lib.hid (HB.out.trans (hb.mono HB.out.size))
        clear hb
        go_wp2_with fail
        go_ret2
        exact ⟨ret_val HV.out.symm, HB2.out⟩
      · have HV : Hid (readV s = .tuple #[.string ⟨#[]⟩, .int .i64 10]) := Lib.hid (readV_bad hf (h1.trans (by rw [h5])) he)
        obtain ⟨sg, esg⟩ : ∃ sg, signalL (midL l) = sg := ⟨_, rfl⟩
        rw [esg] at HS he
        have hq : (sg == s) = false := by simpa using he
        clear hf h1 h4 h5 hx he esg
        go_enter Tryd.func26, Tryd.ntmps26
        go_wp2_with fail
        refine (rflashes_any _ _ _ hsz).mono ?_
        rintro e w' ⟨rfl, rfl⟩
        rw [HF.out]
        go_wp2_with fail
        refine (rsent_any _ _ hs1000).mono ?_
        rintro e w2 ⟨rfl, hb⟩
        rw [HSV.out]
        have HB := Lib.hid hb
        clear hb
        go_wp2_with fail
        refine (rword_any _ _ HX.out).mono ?_
        rintro e w' ⟨rfl, rfl⟩
        rw [HW.out]
        go_wp2_with fail
        refine (rsignal_any _ _ HX.out).mono ?_
        rintro e w3 ⟨rfl, hb⟩
        rw [HS.out]
        have HB2 := Lib.hid (HB.out.trans (hb.mono HB.out.size))
        clear hb
        go_wp2_with fail
        go_ret2
        exact ⟨ret_val HV.out.symm, HB2.out⟩
    · have HV : Hid (readV s = .tuple #[.string ⟨#[]⟩, .int .i64 7]) := Lib.hid (readV_none hf h1)
      clear hf h1
      cases ok with
      | false =>
        clear h2
        go_enter Tryd.func26, Tryd.ntmps26
        go_wp2_with fail
        refine (rflashes_any _ _ _ hsz).mono ?_
        rintro e w' ⟨rfl, rfl⟩
        rw [HF.out]
        go_wp2_with fail
        refine (rsent_any _ _ hs1000).mono ?_
        rintro e w2 ⟨rfl, hb⟩
        rw [HSV.out]
        have HB := Lib.hid hb
        clear hb
        go_wp2_with fail
        go_ret2
        exact ⟨ret_val HV.out.symm, HB.out⟩
      | true =>
        by_cases h4 : l.length < 4
        · have h4i : ((l.length : Int) < 4) := by omega
          clear h2
          go_enter Tryd.func26, Tryd.ntmps26
          go_wp2_with fail
          refine (rflashes_any _ _ _ hsz).mono ?_
          rintro e w' ⟨rfl, rfl⟩
          rw [HF.out]
          go_wp2_with fail
          refine (rsent_any _ _ hs1000).mono ?_
          rintro e w2 ⟨rfl, hb⟩
          rw [HSV.out]
          have HB := Lib.hid hb
          clear hb
          go_wp2_with fail
          go_ret2
          exact ⟨ret_val HV.out.symm, HB.out⟩
        · have hwf : wordB (midL l) = false := by
            rcases h2 with h | h | h
            · cases h
            · exact absurd h h4
            · exact h
          have hx : (B (midL l)).size ≤ maxLen := by rw [size_B]; unfold midL maxLen; simp only [List.length_take, List.length_drop]; omega
          have HX := Lib.hid hx
          have HW : Hid (wordB (B (midL l)).data.toList = false) := Lib.hid (by rw [L_B]; exact hwf)
          have hsl : ∀ W', (Instr.slice 9 (.string (B l)) (some (.int .i64 1)) (some (.int .i64 ((l.length : Int) - 2))) none).run Tryd.prog W' = .ok (.string (B (midL l))) W' := fun W' =>
            sslice_run W' l _ 1 (l.length - 2) (by omega) (by omega) (mid_extract l (by omega)) _ _ rfl (by omega)
          have h3i : decide ((l.length : Int) < 4) = false := decide_eq_false (by omega)
          clear h2 hwf hx
          go_enter Tryd.func26, Tryd.ntmps26
          go_wp2_with fail
          refine (rflashes_any _ _ _ hsz).mono ?_
          rintro e w' ⟨rfl, rfl⟩
          rw [HF.out]
          go_wp2_with fail
          refine (rsent_any _ _ hs1000).mono ?_
          rintro e w2 ⟨rfl, hb⟩
          rw [HSV.out]
          have HB := Lib.hid hb
          clear hb
          go_wp2_with fail
          refine (rword_any _ _ HX.out).mono ?_
          rintro e w' ⟨rfl, rfl⟩
          rw [HW.out]
          go_wp2_with fail
          go_ret2
          exact ⟨ret_val HV.out.symm, HB.out⟩
  · obtain ⟨q, eq⟩ : ∃ q, flashE s 100 = q := ⟨_, rfl⟩
    have HF : Hid (flashE (B s).data.toList 100 = q) := Lib.hid (by rw [L_B]; exact eq)
    have HV : Hid (readV s = .tuple #[.string ⟨#[]⟩, .int .i64 q]) := Lib.hid (by unfold readV; rw [if_neg hf, eq])
    have hq : (q != 0) = true := by rw [← eq]; simpa using hf
    clear hf eq
    go_enter Tryd.func26, Tryd.ntmps26
    go_wp2_with fail
    refine (rflashes_any _ _ _ hsz).mono ?_
    rintro e w' ⟨rfl, rfl⟩
    rw [HF.out]
    go_wp2_with fail
    go_ret2
    exact ⟨ret_val HV.out.symm, Below.refl _ _⟩
end Go.Proofs.YtglhlfabfcneeaaDoor
