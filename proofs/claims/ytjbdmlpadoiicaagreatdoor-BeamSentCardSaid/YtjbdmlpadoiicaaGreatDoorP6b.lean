/- The reference's Signal. -/
import Derived.Test.YtjbdmlpadoiicaaGreatDoorA3
import Derived.Test.YtjbdmlpadoiicaaGreatDoorP0
import Derived.Test.YtjbdmlpadoiicaaGreatDoorB1
import Derived.Test.YtjbdmlpadoiicaaGreatDoorF0
set_option linter.unusedVariables false
set_option linter.unusedSimpArgs false
namespace Go.Proofs.YtjbdmlpadoiicaaGreatDoor
open Go.RowKit Go.Shelf

set_option maxRecDepth 100000 in
set_option maxHeartbeats 1000000 in
theorem rsignal_any (s : ByteArray) (w : World) (hs : s.size ≤ maxLen) :
    Calls Tryz.prog 44 #[.string s] w fun e w' => e = .returned (signalV s.data.toList) ∧ Below w.heap.size w w' := by
  cases hw : wordB s.data.toList
  · have HC := Lib.hid (checksA_no hw)
    have HV : Hid (signalV s.data.toList = .tuple #[.string ⟨#[]⟩, .int .i64 7]) := Lib.hid (by unfold signalV; rw [if_neg (by rw [hw]; decide)])
    clear hw
    go_enter Tryz.func44, Tryz.ntmps44
    go_wp2_with fail
    refine (rchecks_any _ _ hs).mono ?_
    rintro e w1 ⟨rfl, hb⟩
    rw [HC.out]
    have HB := Lib.hid hb
    clear hb
    go_wp2_with fail
    go_quiet (fail)
    go_wp2_with fail
    go_ret2
    exact ⟨ret_val HV.out.symm, below_drewN (HB.out.alloc HB.out.size _) _⟩
  · obtain ⟨h1, h2, h3⟩ := word_parts hw
    have h2' : s.size ≤ 10 := h2
    have HC := Lib.hid (checksA_ok hw)
    have HV : Hid (signalV s.data.toList = .tuple #[.string (B (signalL s.data.toList)), .int .i64 0]) := Lib.hid (by unfold signalV; rw [if_pos hw])
    have HT : Hid (B (aheadL s.data.toList) ++ s ++ B (behindL s.data.toList) = B (textL s.data.toList)) := Lib.hid (by apply ext_L; simp [textL, ByteArray.data_append])
    have HX := Lib.hid (valI_text hw)
    have HS : Hid (signalL s.data.toList = flashL (textL s.data.toList) ++ [47]) := Lib.hid rfl
    have htl : (textL s.data.toList).length ≤ 13 := by have := textL_length s.data.toList; have := size_toList s; omega
    have la : (aheadL s.data.toList).length = 1 := rfl
    have lb : (behindL s.data.toList).length = 2 := rfl
    obtain ⟨ah, ea⟩ : ∃ ah, aheadL s.data.toList = ah := ⟨_, rfl⟩
    obtain ⟨bh, eb⟩ : ∃ bh, behindL s.data.toList = bh := ⟨_, rfl⟩
    rw [ea] at HC HT la
    rw [eb] at HC HT lb
    obtain ⟨tx, et⟩ : ∃ tx, textL s.data.toList = tx := ⟨_, rfl⟩
    rw [et] at HT HX HS htl
    clear hw h1 h2 h3 ea eb et
    go_enter Tryz.func44, Tryz.ntmps44
    go_wp2_with fail
    refine (rchecks_any _ _ hs).mono ?_
    rintro e w1 ⟨rfl, hb⟩
    rw [HC.out]
    have HB := Lib.hid (hb.alloc hb.size (.cells #[.string (B ah), .string (B bh), .int .i64 0] 136))
    clear hb
    go_wp2_with fail
    rw [HT.out]
    clear la lb
    go_loopw [5, 7] (fun o i wr => ∃ k : Nat, k ≤ tx.length ∧ i = .int .i64 k ∧ o = .string (B (flashL (tx.take k))) ∧ Hid (Below w.heap.size w wr)) (fun _ i _ => tx.length - (intOf i).toNat)
    case atStart => exact ⟨0, Nat.zero_le _, rfl, rfl, HB⟩
    case round =>
      obtain ⟨k, hk, rfl, rfl, hBr⟩ := hrel
      have hfl := flashL_length (tx.take k)
      have htk : (tx.take k).length ≤ k := List.length_take_le _ _
      by_cases hlt : k < tx.length
      · have hix := fun W => bidx_run tx k hlt (k : Int) rfl W
        have hlti : (k : Int) < tx.length := by omega
        obtain ⟨c, ec⟩ : ∃ c, tx.getD k 0 = c := ⟨_, rfl⟩
        have hc0 : 0 ≤ valI c := by rw [← ec]; exact HX.out _ (by rw [List.getD_eq_getElem?_getD, List.getElem?_eq_getElem hlt]; exact List.getElem_mem _)
        have hcb := valI_bd c
        obtain ⟨v, hv⟩ : ∃ v : Nat, valI c = v := ⟨(valI c).toNat, by omega⟩
        have HCV := Lib.hid (codeV_ok hv)
        have HT2 : Hid (flashL (tx.take (k + 1)) = flashL (tx.take k) ++ codeL v ++ [47]) := Lib.hid (by
          rw [flashL_take tx k hlt, ec, hv]; simp)
        have hcl := codeL_length v
        rw [ec] at hix
        have ha1 : ¬ 9223372036854775807 < (flashL (tx.take k)).length + (codeL v).length := by omega
        have ha2 : ¬ 9223372036854775807 < (flashL (tx.take k)).length + (codeL v).length + 1 := by omega
        clear ec hc0 hcb hv
        go_wp2_with fail
        refine (rcode_any _ _).mono ?_
        rintro e w2 ⟨rfl, hb⟩
        rw [HCV.out]
        have HB2 := Lib.hid (hBr.out.trans (hb.mono hBr.out.size))
        clear hb
        go_wp2_with fail
        go_roundw
        case rel => exact ⟨k + 1, by omega, by go_num, by rw [HT2.out, B_add, B_add]; rfl, HB2⟩
        case measure => simp [intOf]; omega
      · obtain rfl : k = tx.length := by omega
        have HT3 : Hid (flashL (tx.take tx.length) = flashL tx) := Lib.hid (by rw [List.take_length])
        rw [HT3.out] at hfl ⊢
        have ha1 : ¬ 9223372036854775807 < (flashL tx).length + 1 := by omega
        go_wp2_with fail
        go_ret2
        exact ⟨ret_val (by rw [HV.out, HS.out, B_add]; rfl), hBr.out⟩
end Go.Proofs.YtjbdmlpadoiicaaGreatDoor
