/- The reference's sent and Read. -/
import Derived.Test.YtglhlfabfcneeaaDoorP6
import Derived.Test.YtglhlfabfcneeaaDoorS6
namespace Go.Proofs.YtglhlfabfcneeaaDoor
open Go.RowKit Go.Shelf

theorem conv_one (W : World) (x : UInt8) (t : TypeId) : (convert 77 9 (.slice (some ⟨W.heap.size, 0, none⟩) 1 1)).run Tryd.prog (W.alloc (.cells #[.int .u8 x.toNat] t)) = .ok (.string (B [x])) (W.alloc (.cells #[.int .u8 x.toNat] t)) := by
  have : B [x] = strOfNums [(x.toNat : Int)] := by rw [← strOfNums_B]; rfl
  rw [this]
  refine run_convert_bytes_arg _ _ _ Tryd.underlying77 Tryd.underlying5 W.heap.size 0 1 1 _ rfl (fun i hi => ?_) _ Tryd.underlying9
  obtain rfl : i = 0 := by omega
  rw [World.cell?_alloc_new]; rfl

def sentV (r : List UInt8 × Bool) : Value := .tuple #[.string (B r.1), .bool r.2]
theorem cut_one (s : List UInt8) (k : Nat) (h : k < s.length) : cutL s k (k + 1) = [s.getD k 0] := by
  unfold cutL
  rw [show k + 1 - k = 1 by omega, List.drop_eq_getElem_cons h, List.getD_eq_getElem?_getD, List.getElem?_eq_getElem h]; rfl
theorem drop_at (s : List UInt8) (k : Nat) (h : k < s.length) : s.drop k = s.getD k 0 :: s.drop (k + 1) := by
  rw [List.drop_eq_getElem_cons h, List.getD_eq_getElem?_getD, List.getElem?_eq_getElem h]; rfl

set_option maxRecDepth 100000 in
set_option maxHeartbeats 1000000 in
theorem rsent_any (s : List UInt8) (w : World) (hs : s.length ≤ 1000) :
    Calls Tryd.prog 55 #[.string (B s)] w fun e w' => e = .returned (sentV (sentP s)) ∧ Below w.heap.size w w' := by
  go_enter Tryd.func55, Tryd.ntmps55
  go_wp2_with fail
  go_loopw [4, 5, 6] (fun o c i wr => ∃ (k : Nat) (ol cl : List UInt8), k ≤ s.length ∧ i = .int .i64 k ∧ o = .string (B ol) ∧ c = .string (B cl) ∧ ol.length ≤ k ∧ cl.length ≤ k ∧ Hid (sentP s = sentF (s.drop k) ol cl) ∧ Hid (Below w.heap.size w wr)) (fun _ _ i _ => s.length - (intOf i).toNat)
  case atStart => exact ⟨0, [], [], Nat.zero_le _, rfl, rfl, rfl, by simp, by simp, Lib.hid rfl, Lib.hid (Below.refl _ _)⟩
  case round =>
    obtain ⟨k, ol, cl, hk, rfl, rfl, rfl, ho, hc, hF, hB⟩ := hrel
    by_cases hlt : k < s.length
    · have hix := fun W => bidx_run s k hlt (k : Int) rfl W
      have hlti : (k : Int) < s.length := by omega
      have hd := drop_at s k hlt
      obtain ⟨b, eb⟩ : ∃ b, s.getD k 0 = b := ⟨_, rfl⟩
      rw [eb] at hix hd
      have HD := Lib.hid hd
      by_cases hb : b = 47
      · have hq : ((b.toNat : Int) != 47) = false := by rw [hb]; decide
        by_cases hcl : cl = []
        · subst hcl
          have HF2 : Hid (sentV (sentP s) = .tuple #[.string (B ol), .bool ((k : Int) == s.length - 1)]) := Lib.hid (by
            have hbb : (s.drop (k + 1)).isEmpty = ((k : Int) == s.length - 1) := by rw [Bool.eq_iff_iff]; simp; omega
            rw [hF.out, HD.out, hb, sentF_pause, if_pos rfl, hbb]; rfl)
          clear hd hb eb
          go_wp2_with fail
          go_ret2
          exact ⟨ret_val HF2.out.symm, hB.out⟩
        · have hE : cl.isEmpty = false := by simpa using hcl
          have hle : ¬ 9223372036854775807 < ol.length + 1 := by omega
          cases hg : goodB cl
          · have HL := Lib.hid (letterV_bad hg)
            have HF2 : Hid (sentV (sentP s) = .tuple #[.string ⟨#[]⟩, .bool false]) := Lib.hid (by
              rw [hF.out, HD.out, hb, sentF_pause, if_neg hcl, if_neg (of_decide_eq_false hg)]; rfl)
            clear hd hb eb hcl hg
            go_wp2_with fail
            refine (rletter_any _ _).mono ?_
            rintro e w2 ⟨rfl, hb2⟩
            rw [L_B, HL.out]
            have HB2 := Lib.hid (hB.out.trans (hb2.mono hB.out.size))
            clear hb2
            go_wp2_with fail
            go_ret2
            exact ⟨ret_val HF2.out.symm, HB2.out⟩
          · have HL := Lib.hid (letterV_good hg)
            obtain ⟨x, ex⟩ : ∃ x, letterB cl = x := ⟨_, rfl⟩
            rw [ex] at HL
            have HF2 : Hid (sentP s = sentF (s.drop (k + 1)) (ol ++ [x]) []) := Lib.hid (by
              rw [hF.out, HD.out, hb, sentF_pause, if_neg hcl, if_pos (of_decide_eq_true hg), ex])
            clear hd hb eb hcl hg ex
            go_wp2_with fail
            refine (rletter_any _ _).mono ?_
            rintro e w2 ⟨rfl, hb2⟩
            rw [L_B, HL.out]
            have HB2 := Lib.hid (hB.out.trans (hb2.mono hB.out.size))
            have hcv := conv_one w2 x 5
            clear hb2
            go_wp2_with fail
            go_roundw
            case rel => exact ⟨k + 1, ol ++ [x], [], by omega, by go_num, by rw [B_add], rfl, by simp; omega, by simp, HF2, Lib.hid (HB2.out.alloc HB2.out.size _)⟩
            case measure => simp [intOf]; omega
      · have hq : ((b.toNat : Int) != 47) = true := by
          rw [bne_iff_ne]; intro h; exact hb (UInt8.toNat_inj.1 (by have h9 : (47 : UInt8).toNat = 47 := rfl; omega))
        have hcut : ∀ W', (Instr.slice 9 (.string (B s)) (some (.int .i64 (k : Int))) (some (.int .i64 ((k : Int) + 1))) none).run Tryd.prog W' = .ok (.string (B [b])) W' := fun W' => by
          have := sslice_run W' s _ k (k + 1) (by omega) (by omega) (cutL_extract s k (k + 1) (by omega)) _ _ rfl rfl
          rw [cut_one s k hlt, eb] at this
          exact this
        have hle : ¬ 9223372036854775807 < cl.length + 1 := by omega
        have HF2 : Hid (sentP s = sentF (s.drop (k + 1)) ol (cl ++ [b])) := Lib.hid (by rw [hF.out, HD.out, sentF_flash hb])
        clear hd hb eb
        go_wp2_with fail
        go_roundw
        case rel => exact ⟨k + 1, ol, cl ++ [b], by omega, by go_num, rfl, by rw [B_add], by omega, by simp; omega, HF2, hB⟩
        case measure => simp [intOf]; omega
    · obtain rfl : k = s.length := by omega
      have HF2 : Hid (sentV (sentP s) = .tuple #[.string ⟨#[]⟩, .bool false]) := Lib.hid (by
        rw [hF.out, List.drop_length]; rfl)
      go_wp2_with fail
      go_ret2
      exact ⟨ret_val HF2.out.symm, hB.out⟩
end Go.Proofs.YtglhlfabfcneeaaDoor
