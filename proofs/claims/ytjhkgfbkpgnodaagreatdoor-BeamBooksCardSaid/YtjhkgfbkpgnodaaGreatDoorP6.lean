/- The reference's Flashes. -/
import Derived.Test.YtjhkgfbkpgnodaaGreatDoorA1
namespace Go.Proofs.YtjhkgfbkpgnodaaGreatDoor
open Go.RowKit Go.Shelf

theorem rflash_any (c : UInt8) (w : World) :
    Calls Tryz.prog 78 #[.int .u8 c.toNat] w fun e w' => e = .returned (.bool (flashB c)) ∧ w = w' := by
  by_cases h1 : (c.toNat : Int) = 46
  · have q : ((c.toNat : Int) == 46) = true := by simpa using h1
    have HF : Hid (flashB c = true) := Lib.hid (by simp [flashB, h1])
    clear h1
    go_enter Tryz.func78, Tryz.ntmps78
    go_wp2
    go_ret
    exact ⟨ret_bool HF.out.symm, rfl⟩
  · have q : ((c.toNat : Int) == 46) = false := by simpa using h1
    by_cases h2 : (c.toNat : Int) = 45
    · have q2 : ((c.toNat : Int) == 45) = true := by simpa using h2
      have HF : Hid (flashB c = true) := Lib.hid (by simp [flashB, h2])
      clear h1 h2
      go_enter Tryz.func78, Tryz.ntmps78
      go_wp2
      go_ret
      exact ⟨ret_bool HF.out.symm, rfl⟩
    · have q2 : ((c.toNat : Int) == 45) = false := by simpa using h2
      have HF : Hid (flashB c = ((c.toNat : Int) == 47)) := Lib.hid (by simp [flashB, h1, h2]; rw [Bool.eq_iff_iff]; simp)
      clear h1 h2
      go_enter Tryz.func78, Tryz.ntmps78
      go_wp2
      go_ret
      exact ⟨ret_bool HF.out.symm, rfl⟩

theorem rflashes_any (s : ByteArray) (m : Int) (w : World) (hs : s.size ≤ maxLen) :
    Calls Tryz.prog 39 #[.string s, .int .i64 m] w fun e w' => e = .returned (.int .i64 (flashE s.data.toList m)) ∧ w = w' := by
  unfold maxLen at hs
  by_cases h1 : m < s.size
  · go_enter Tryz.func39, Tryz.ntmps39
    go_wp2
    go_ret
    exact ⟨ret_int (by simp [flashE]; intro; omega), rfl⟩
  · go_enter Tryz.func39, Tryz.ntmps39
    go_wp2
    go_loop [5] (fun i => ∃ k : Nat, k ≤ s.size ∧ i = .int .i64 k ∧ Hid ((s.data.toList.take k).all flashB = true)) (fun i => s.size - (intOf i).toNat)
    case atStart => exact ⟨0, Nat.zero_le _, rfl, Lib.hid rfl⟩
    case round =>
      obtain ⟨k, hk, rfl, hall⟩ := hrel
      by_cases hlt : k < s.size
      · cases hf : flashB s[k]
        · have HF := Lib.hid hf
          have HN : Hid (flashE s.data.toList m = 7) := Lib.hid (by
            have := all_no flashB s k hlt hf
            unfold flashE; rw [if_neg (by rw [size_toList]; omega), if_neg (by rw [this]; decide)])
          clear hf
          go_wp2_with fail
          refine (rflash_any _ _).mono ?_
          rintro e w' ⟨rfl, rfl⟩
          rw [HF.out]
          go_wp2_with fail
          go_ret
          exact ⟨ret_int HN.out.symm, rfl⟩
        · have HF := Lib.hid hf
          have HY := Lib.hid (all_take flashB s k hlt hall.out hf)
          clear hf
          go_wp2_with fail
          refine (rflash_any _ _).mono ?_
          rintro e w' ⟨rfl, rfl⟩
          rw [HF.out]
          go_wp2_with fail
          go_round
          case rel => exact ⟨k + 1, by omega, by go_num, HY⟩
          case measure => simp [intOf]; omega
      · have HN : Hid (flashE s.data.toList m = 0) := Lib.hid (by
          have := hall.out
          rw [take_all hlt] at this
          unfold flashE; rw [if_neg (by rw [size_toList]; omega), if_pos this])
        go_wp2
        go_ret
        exact ⟨ret_int HN.out.symm, rfl⟩

end Go.Proofs.YtjhkgfbkpgnodaaGreatDoor
