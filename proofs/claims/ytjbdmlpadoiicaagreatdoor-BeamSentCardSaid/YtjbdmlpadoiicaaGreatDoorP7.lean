/- The reference's sent and Read. -/
import Derived.Test.YtjbdmlpadoiicaaGreatDoorP6b
import Derived.Test.YtjbdmlpadoiicaaGreatDoorS6
set_option linter.unusedVariables false
set_option linter.unusedSimpArgs false
namespace Go.Proofs.YtjbdmlpadoiicaaGreatDoor
open Go.RowKit Go.Shelf

theorem conv_one (W : World) (x : UInt8) (t : TypeId) : (convert 105 9 (.slice (some ⟨W.heap.size, 0, none⟩) 1 1)).run Tryz.prog (W.alloc (.cells #[.int .u8 x.toNat] t)) = .ok (.string (B [x])) (W.alloc (.cells #[.int .u8 x.toNat] t)) := by
  have : B [x] = strOfNums [(x.toNat : Int)] := by rw [← strOfNums_B]; rfl
  rw [this]
  refine run_convert_bytes_arg _ _ _ Tryz.underlying105 Tryz.underlying5 W.heap.size 0 1 1 _ rfl (fun i hi => ?_) _ Tryz.underlying9
  obtain rfl : i = 0 := by omega
  rw [World.cell?_alloc_new]; rfl

def sentV (r : List UInt8 × Bool) : Value := .tuple #[.string (B r.1), .bool r.2]
theorem cut_one (s : List UInt8) (k : Nat) (h : k < s.length) : cutL s k (k + 1) = [s.getD k 0] := by
  unfold cutL
  rw [show k + 1 - k = 1 by omega, List.drop_eq_getElem_cons h, List.getD_eq_getElem?_getD, List.getElem?_eq_getElem h]; rfl
theorem drop_at (s : List UInt8) (k : Nat) (h : k < s.length) : s.drop k = s.getD k 0 :: s.drop (k + 1) := by
  rw [List.drop_eq_getElem_cons h, List.getD_eq_getElem?_getD, List.getElem?_eq_getElem h]; rfl

set_option maxRecDepth 100000 in
set_option maxHeartbeats 1000000 in
theorem rsent_any (s : List UInt8) (w : World) (hs : s.length ≤ 1000) :
    Calls Tryz.prog 79 #[.string (B s)] w fun e w' => e = .returned (sentV (sentP s)) ∧ Below w.heap.size w w' := by
  go_enter Tryz.func79, Tryz.ntmps79
  go_wp2_with fail
  go_loopw [4, 5, 6] (fun o c i wr => ∃ (k : Nat) (ol cl : List UInt8), k ≤ s.length ∧ i = .int .i64 k ∧ o = .string (B ol) ∧ c = .string (B cl) ∧ ol.length ≤ k ∧ cl.length ≤ k ∧ Hid (sentP s = sentF (s.drop k) ol cl) ∧ Hid (Below w.heap.size w wr)) (fun _ _ i _ => s.length - (intOf i).toNat)
  case atStart => exact ⟨0, [], [], Nat.zero_le _, rfl, rfl, rfl, by simp, by simp, Lib.hid rfl, Lib.hid (Below.refl _ _)⟩
  case round =>
    obtain ⟨k, ol, cl, hk, rfl, rfl, rfl, ho, hc, hF, hB⟩ := hrel
    by_cases hlt : k < s.length
    · have hix := fun W => bidx_run s k hlt (k : Int) rfl W
      have hlti : (k : Int) < s.length := by omega
      have hd := drop_at s k hlt
      obtain ⟨b, eb⟩ : ∃ b, s.getD k 0 = b := ⟨_, rfl⟩
      rw [eb] at hix hd
      have HD := Lib.hid hd
      by_cases hb : b = 47
      · have hq : ((b.toNat : Int) != 47) = false := by rw [hb]; decide
        by_cases hcl : cl = []
        · subst hcl
          have HF2 : Hid (sentV (sentP s) = .tuple #[.string (B ol), .bool ((k : Int) == s.length - 1)]) := Lib.hid (by
            have hbb : (s.drop (k + 1)).isEmpty = ((k : Int) == s.length - 1) := by rw [Bool.eq_iff_iff]; simp; omega
            rw [hF.out, HD.out, hb, sentF_pause, if_pos rfl, hbb]; rfl)
          clear hd hb eb
          go_wp2_with fail
          go_ret2
          exact ⟨ret_val HF2.out.symm, hB.out⟩
        · have hE : cl.isEmpty = false := by simpa using hcl
          have hle : ¬ 9223372036854775807 < ol.length + 1 := by omega
          cases hg : goodB cl
          · have HL := Lib.hid (letterV_bad hg)
            have HF2 : Hid (sentV (sentP s) = .tuple #[.string ⟨#[]⟩, .bool false]) := Lib.hid (by
              rw [hF.out, HD.out, hb, sentF_pause, if_neg hcl, if_neg (of_decide_eq_false hg)]; rfl)
            clear hd hb eb hcl hg
            go_wp2_with fail
            refine (rletter_any _ _).mono ?_
            rintro e w2 ⟨rfl, hb2⟩
            rw [L_B, HL.out]
            have HB2 := Lib.hid (hB.out.trans (hb2.mono hB.out.size))
            clear hb2
            go_wp2_with fail
            go_ret2
            exact ⟨ret_val HF2.out.symm, HB2.out⟩
          · have HL := Lib.hid (letterV_good hg)
            obtain ⟨x, ex⟩ : ∃ x, letterB cl = x := ⟨_, rfl⟩
            rw [ex] at HL
            have HF2 : Hid (sentP s = sentF (s.drop (k + 1)) (ol ++ [x]) []) := Lib.hid (by
              rw [hF.out, HD.out, hb, sentF_pause, if_neg hcl, if_pos (of_decide_eq_true hg), ex])
            clear hd hb eb hcl hg ex
            go_wp2_with fail
            refine (rletter_any _ _).mono ?_
            rintro e w2 ⟨rfl, hb2⟩
            rw [L_B, HL.out]
            have HB2 := Lib.hid (hB.out.trans (hb2.mono hB.out.size))
            have hcv := conv_one w2 x 5
            clear hb2
            go_wp2_with fail
            go_roundw
            case rel => exact ⟨k + 1, ol ++ [x], [], by omega, by go_num, by rw [B_add], rfl, by simp; omega, by simp, HF2, Lib.hid (HB2.out.alloc HB2.out.size _)⟩
            case measure => simp [intOf]; omega
      · have hq : ((b.toNat : Int) != 47) = true := by
          rw [bne_iff_ne]; intro h; exact hb (UInt8.toNat_inj.1 (by have h9 : (47 : UInt8).toNat = 47 := rfl; omega))
        have hcut : ∀ W', (Instr.slice 9 (.string (B s)) (some (.int .i64 (k : Int))) (some (.int .i64 ((k : Int) + 1))) none).run Tryz.prog W' = .ok (.string (B [b])) W' := fun W' => by
          have := sslice_run W' s _ k (k + 1) (by omega) (by omega) (cutL_extract s k (k + 1) (by omega)) _ _ rfl rfl
          rw [cut_one s k hlt, eb] at this
          exact this
        have hle : ¬ 9223372036854775807 < cl.length + 1 := by omega
        have HF2 : Hid (sentP s = sentF (s.drop (k + 1)) ol (cl ++ [b])) := Lib.hid (by rw [hF.out, HD.out, sentF_flash hb])
        clear hd hb eb
        go_wp2_with fail
        go_roundw
        case rel => exact ⟨k + 1, ol, cl ++ [b], by omega, by go_num, rfl, by rw [B_add], by omega, by simp; omega, HF2, hB⟩
        case measure => simp [intOf]; omega
    · obtain rfl : k = s.length := by omega
      have HF2 : Hid (sentV (sentP s) = .tuple #[.string ⟨#[]⟩, .bool false]) := Lib.hid (by
        rw [hF.out, List.drop_length]; rfl)
      go_wp2_with fail
      go_ret2
      exact ⟨ret_val HF2.out.symm, hB.out⟩
end Go.Proofs.YtjbdmlpadoiicaaGreatDoor

/-! The reference's Read. -/
namespace Go.Proofs.YtjbdmlpadoiicaaGreatDoor
open Go.RowKit Go.Shelf

theorem sentF_length : ∀ (s out code : List UInt8), (sentF s out code).1.length ≤ out.length + s.length
  | [], out, code => by simp [sentF]
  | b :: s, out, code => by
    by_cases hb : b = 47
    · subst hb
      rw [sentF_pause]
      split
      · simp
      · split
        · have := sentF_length s (out ++ [letterB code]) []; simp at this ⊢; omega
        · simp
    · rw [sentF_flash hb]; have := sentF_length s out (code ++ [b]); simp; omega
theorem mid_extract (l : List UInt8) (h : 4 ≤ l.length) : (B l).extract 1 (l.length - 2) = B (midL l) := by
  apply ext_L
  rw [L_B, ByteArray.data_extract, Array.toList_extract, L_B, List.extract]
  unfold midL
  rw [show l.length - 2 - 1 = l.length - 3 by omega]

set_option maxRecDepth 100000 in
set_option maxHeartbeats 1000000 in
theorem rread_any (sb : ByteArray) (w : World) (hsz : sb.size ≤ maxLen) :
    Calls Tryz.prog 42 #[.string sb] w fun e w' => e = .returned (readV sb.data.toList) ∧ Below w.heap.size w w' := by
  obtain ⟨s, rfl⟩ : ∃ s, sb = B s := ⟨_, (B_L sb).symm⟩
  rw [L_B]
  by_cases hf : flashE s 100 = 0
  · have hs100 := flashE_le' hf
    have HF : Hid (flashE (B s).data.toList 100 = 0) := Lib.hid (by rw [L_B]; exact hf)
    have hll := sentF_length s [] []
    have hsf := sent_form s
    obtain ⟨l, ok, hlo⟩ : ∃ l ok, sentP s = (l, ok) := ⟨_, _, rfl⟩
    have HSV : Hid (sentV (sentP s) = .tuple #[.string (B l), .bool ok]) := Lib.hid (by rw [hlo]; rfl)
    have hll2 : l.length ≤ s.length := by have : (sentP s).1.length ≤ s.length := by simpa [sentP] using hll
                                          rw [hlo] at this; exact this
    rw [hlo] at hsf
    simp only at hsf
    have hs1000 : s.length ≤ 1000 := by omega
    clear hll hlo
    rcases hsf with ⟨x, h1, h2, h3, h4, h5⟩ | ⟨h1, h2⟩
    · subst h2
      have hx : (B (midL l)).size ≤ maxLen := by rw [size_B]; have := (word_parts h4).2.1; unfold maxLen; omega
      have HX := Lib.hid hx
      have HW : Hid (wordB (B (midL l)).data.toList = true) := Lib.hid (by rw [L_B]; exact h4)
      have HS : Hid (signalV (B (midL l)).data.toList = .tuple #[.string (B (signalL (midL l))), .int .i64 0]) := Lib.hid (by rw [L_B]; exact (by unfold signalV; rw [if_pos h4]))
      have hsl : ∀ W', (Instr.slice 9 (.string (B l)) (some (.int .i64 1)) (some (.int .i64 ((l.length : Int) - 2))) none).run Tryz.prog W' = .ok (.string (B (midL l))) W' := fun W' =>
        sslice_run W' l _ 1 (l.length - 2) (by omega) (by omega) (mid_extract l h3) _ _ rfl (by omega)
      have h3i : decide ((l.length : Int) < 4) = false := decide_eq_false (by omega)
      by_cases he : signalL (midL l) = s
      · have HV : Hid (readV s = .tuple #[.string (B (midL l)), .int .i64 0]) := Lib.hid (readV_ok hf (h1.trans (by rw [h5])) he)
        rw [he] at HS
        clear hf h1 h4 h5 hx he
        go_enter Tryz.func42, Tryz.ntmps42
        go_wp2_with fail
        refine (rflashes_any _ _ _ hsz).mono ?_
        rintro e w' ⟨rfl, rfl⟩
        rw [HF.out]
        go_wp2_with fail
        refine (rsent_any _ _ hs1000).mono ?_
        rintro e w2 ⟨rfl, hb⟩
        rw [HSV.out]
        have HB := Lib.hid hb
        clear hb
        go_wp2_with fail
        refine (rword_any _ _ HX.out).mono ?_
        rintro e w' ⟨rfl, rfl⟩
        rw [HW.out]
        go_wp2_with fail
        refine (rsignal_any _ _ HX.out).mono ?_
        rintro e w3 ⟨rfl, hb⟩
        rw [HS.out]
        have HB2 := Lib.hid (HB.out.trans (hb.mono HB.out.size))
        clear hb
        go_wp2_with fail
        go_ret2
        exact ⟨ret_val HV.out.symm, HB2.out⟩
      · have HV : Hid (readV s = .tuple #[.string ⟨#[]⟩, .int .i64 10]) := Lib.hid (readV_bad hf (h1.trans (by rw [h5])) he)
        obtain ⟨sg, esg⟩ : ∃ sg, signalL (midL l) = sg := ⟨_, rfl⟩
        rw [esg] at HS he
        have hq : (sg == s) = false := by simpa using he
        clear hf h1 h4 h5 hx he esg
        go_enter Tryz.func42, Tryz.ntmps42
        go_wp2_with fail
        refine (rflashes_any _ _ _ hsz).mono ?_
        rintro e w' ⟨rfl, rfl⟩
        rw [HF.out]
        go_wp2_with fail
        refine (rsent_any _ _ hs1000).mono ?_
        rintro e w2 ⟨rfl, hb⟩
        rw [HSV.out]
        have HB := Lib.hid hb
        clear hb
        go_wp2_with fail
        refine (rword_any _ _ HX.out).mono ?_
        rintro e w' ⟨rfl, rfl⟩
        rw [HW.out]
        go_wp2_with fail
        refine (rsignal_any _ _ HX.out).mono ?_
        rintro e w3 ⟨rfl, hb⟩
        rw [HS.out]
        have HB2 := Lib.hid (HB.out.trans (hb.mono HB.out.size))
        clear hb
        go_wp2_with fail
        go_ret2
        exact ⟨ret_val HV.out.symm, HB2.out⟩
    · have HV : Hid (readV s = .tuple #[.string ⟨#[]⟩, .int .i64 7]) := Lib.hid (readV_none hf h1)
      clear hf h1
      cases ok with
      | false =>
        clear h2
        go_enter Tryz.func42, Tryz.ntmps42
        go_wp2_with fail
        refine (rflashes_any _ _ _ hsz).mono ?_
        rintro e w' ⟨rfl, rfl⟩
        rw [HF.out]
        go_wp2_with fail
        refine (rsent_any _ _ hs1000).mono ?_
        rintro e w2 ⟨rfl, hb⟩
        rw [HSV.out]
        have HB := Lib.hid hb
        clear hb
        go_wp2_with fail
        go_ret2
        exact ⟨ret_val HV.out.symm, HB.out⟩
      | true =>
        by_cases h4 : l.length < 4
        · have h4i : ((l.length : Int) < 4) := by omega
          clear h2
          go_enter Tryz.func42, Tryz.ntmps42
          go_wp2_with fail
          refine (rflashes_any _ _ _ hsz).mono ?_
          rintro e w' ⟨rfl, rfl⟩
          rw [HF.out]
          go_wp2_with fail
          refine (rsent_any _ _ hs1000).mono ?_
          rintro e w2 ⟨rfl, hb⟩
          rw [HSV.out]
          have HB := Lib.hid hb
          clear hb
          go_wp2_with fail
          go_ret2
          exact ⟨ret_val HV.out.symm, HB.out⟩
        · have hwf : wordB (midL l) = false := by
            rcases h2 with h | h | h
            · cases h
            · exact absurd h h4
            · exact h
          have hx : (B (midL l)).size ≤ maxLen := by rw [size_B]; unfold midL maxLen; simp only [List.length_take, List.length_drop]; omega
          have HX := Lib.hid hx
          have HW : Hid (wordB (B (midL l)).data.toList = false) := Lib.hid (by rw [L_B]; exact hwf)
          have hsl : ∀ W', (Instr.slice 9 (.string (B l)) (some (.int .i64 1)) (some (.int .i64 ((l.length : Int) - 2))) none).run Tryz.prog W' = .ok (.string (B (midL l))) W' := fun W' =>
            sslice_run W' l _ 1 (l.length - 2) (by omega) (by omega) (mid_extract l (by omega)) _ _ rfl (by omega)
          have h3i : decide ((l.length : Int) < 4) = false := decide_eq_false (by omega)
          clear h2 hwf hx
          go_enter Tryz.func42, Tryz.ntmps42
          go_wp2_with fail
          refine (rflashes_any _ _ _ hsz).mono ?_
          rintro e w' ⟨rfl, rfl⟩
          rw [HF.out]
          go_wp2_with fail
          refine (rsent_any _ _ hs1000).mono ?_
          rintro e w2 ⟨rfl, hb⟩
          rw [HSV.out]
          have HB := Lib.hid hb
          clear hb
          go_wp2_with fail
          refine (rword_any _ _ HX.out).mono ?_
          rintro e w' ⟨rfl, rfl⟩
          rw [HW.out]
          go_wp2_with fail
          go_ret2
          exact ⟨ret_val HV.out.symm, HB.out⟩
  · obtain ⟨q, eq⟩ : ∃ q, flashE s 100 = q := ⟨_, rfl⟩
    have HF : Hid (flashE (B s).data.toList 100 = q) := Lib.hid (by rw [L_B]; exact eq)
    have HV : Hid (readV s = .tuple #[.string ⟨#[]⟩, .int .i64 q]) := Lib.hid (by unfold readV; rw [if_neg hf, eq])
    have hq : (q != 0) = true := by rw [← eq]; simpa using hf
    clear hf eq
    go_enter Tryz.func42, Tryz.ntmps42
    go_wp2_with fail
    refine (rflashes_any _ _ _ hsz).mono ?_
    rintro e w' ⟨rfl, rfl⟩
    rw [HF.out]
    go_wp2_with fail
    go_ret2
    exact ⟨ret_val HV.out.symm, Below.refl _ _⟩
end Go.Proofs.YtjbdmlpadoiicaaGreatDoor
