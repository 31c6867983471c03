/- Contracts of the reference's small functions: letters, Value, small, all, Word. -/
import Derived.Test.YtjhkgfbkpgnodaaGreatDoorA1
import Derived.Test.YtjhkgfbkpgnodaaGreatDoorB3
namespace Go.Proofs.YtjhkgfbkpgnodaaGreatDoor
open Go.RowKit Go.Shelf

theorem valI_at (b : UInt8) (k : Nat) (hk : k < 29) (h : signsL.getD k 0 = b) : valI b = k := by
  have : ∀ k : Fin 29, valI (signsL.getD k 0) = (k : Nat) := by decide +kernel
  rw [← h]; exact this ⟨k, hk⟩
theorem valI_none (b : UInt8) (h : ∀ j, j < 29 → signsL.getD j 0 ≠ b) : valI b = -1 := by
  have : ∀ c : UInt8, (valI c = -1 ∨ ∃ j : Fin 29, signsL.getD j 0 = c) := u8_all (by decide +kernel)
  rcases this b with h1 | ⟨j, h1⟩
  · exact h1
  · exact absurd h1 (h j j.2)

theorem rletters_any (w : World) : Calls Tryz.prog 114 #[] w fun e w' => e = .returned (.string ⟨#[43, 97, 98, 99, 100, 101, 102, 103, 104, 105, 106, 107, 108, 109, 110, 111, 112, 113, 114, 115, 116, 117, 118, 119, 120, 121, 122, 42, 35]⟩) ∧ w = w' := by
  go_enter Tryz.func114, Tryz.ntmps114
  go_wp2
  go_ret
  exact ⟨rfl, rfl⟩

theorem rvalue_any (b : UInt8) (w : World) :
    Calls Tryz.prog 113 #[.int .u8 b.toNat] w fun e w' => e = .returned (.int .i64 (valI b)) ∧ w = w' := by
  go_enter Tryz.func113, Tryz.ntmps113
  go_wp2
  go_loop [3] (fun i => ∃ k : Nat, k ≤ 29 ∧ i = .int .i64 k ∧ Hid (∀ j, j < k → signsL.getD j 0 ≠ b)) (fun i => 29 - (intOf i).toNat)
  case atStart => exact ⟨0, by omega, rfl, Lib.hid (fun j hj => by omega)⟩
  case round =>
    obtain ⟨k, hk, rfl, hno⟩ := hrel
    by_cases hlt : k < 29
    · have hsi := fun w => signs_at k hlt w
      obtain ⟨c, ec⟩ : ∃ c, signsL.getD k 0 = c := ⟨_, rfl⟩
      rw [ec] at hsi
      have hk' : (k : Int) < 29 := by omega
      by_cases hc : c = b
      · have hq : ((c.toNat : Int) == (b.toNat : Int)) = true := by rw [hc]; simp
        have HV := Lib.hid (valI_at b k hlt (ec.trans hc))
        clear ec hc
        go_wp2_with (go_at_call 114; refine (rletters_any _).mono ?_; rintro e w' ⟨rfl, rfl⟩)
        go_ret
        exact ⟨ret_int HV.out.symm, rfl⟩
      · have hq : ((c.toNat : Int) == (b.toNat : Int)) = false := by
          rw [beq_eq_false_iff_ne]; intro h; exact hc (UInt8.toNat_inj.1 (by omega))
        have HN : Hid (∀ j, j < k + 1 → signsL.getD j 0 ≠ b) := Lib.hid (fun j hj => by
          by_cases e : j = k
          · rw [e, ec]; exact hc
          · exact hno.out j (by omega))
        clear ec hc
        go_wp2_with (go_at_call 114; refine (rletters_any _).mono ?_; rintro e w' ⟨rfl, rfl⟩)
        go_round
        case rel => exact ⟨k + 1, by omega, by go_num, HN⟩
        case measure => simp [intOf]; omega
    · obtain rfl : k = 29 := by omega
      have HV := Lib.hid (valI_none b hno.out)
      go_wp2
      go_ret
      exact ⟨ret_int HV.out.symm, rfl⟩

theorem rsmall_any (c : UInt8) (w : World) :
    Calls Tryz.prog 116 #[.int .u8 c.toNat] w fun e w' => e = .returned (.bool (letB c)) ∧ w = w' := by
  by_cases h1 : 97 ≤ (c.toNat : Int)
  · go_enter Tryz.func116, Tryz.ntmps116
    go_wp2
    go_ret
    exact ⟨ret_bool (by simp [letB, h1]), rfl⟩
  · have h2 : decide (97 ≤ (c.toNat : Int)) = false := decide_eq_false h1
    go_enter Tryz.func116, Tryz.ntmps116
    go_wp2
    go_ret
    exact ⟨ret_bool (by simp [letB, h2]), rfl⟩

def allB (l : List UInt8) : Bool := l.all letB
theorem rall_any (s : ByteArray) (w : World) (hs : s.size ≤ maxLen) :
    Calls Tryz.prog 83 #[.string s] w fun e w' => e = .returned (.bool (allB s.data.toList)) ∧ w = w' := by
  unfold maxLen at hs
  go_enter Tryz.func83, Tryz.ntmps83
  go_wp2
  go_loop [3] (fun i => ∃ k : Nat, k ≤ s.size ∧ i = .int .i64 k ∧ Hid ((s.data.toList.take k).all letB = true)) (fun i => s.size - (intOf i).toNat)
  case atStart => exact ⟨0, Nat.zero_le _, rfl, Lib.hid rfl⟩
  case round =>
    obtain ⟨k, hk, rfl, hall⟩ := hrel
    by_cases hlt : k < s.size
    · by_cases hb : letB s[k] = true
      · have HY := Lib.hid (all_take letB s k hlt hall.out hb)
        have HB := Lib.hid hb
        clear hb
        go_wp2_with fail
        refine (rsmall_any _ _).mono ?_
        rintro e w' ⟨rfl, rfl⟩
        rw [HB.out]
        go_wp2_with fail
        go_round
        case rel => exact ⟨k + 1, by omega, by go_num, HY⟩
        case measure => simp [intOf]; omega
      · have hb' : letB s[k] = false := by simpa using hb
        have HY : Hid (allB s.data.toList = false) := Lib.hid (all_no letB s k hlt hb')
        have HB := Lib.hid hb'
        clear hb hb'
        go_wp2_with fail
        refine (rsmall_any _ _).mono ?_
        rintro e w' ⟨rfl, rfl⟩
        rw [HB.out]
        go_wp2_with fail
        go_ret
        exact ⟨ret_bool HY.out.symm, rfl⟩
    · have HY := Lib.hid (hall.out)
      go_wp2
      go_ret
      exact ⟨ret_bool (by rw [take_all hlt] at HY; exact (show allB s.data.toList = true from HY.out).symm), rfl⟩

theorem rword_any (s : ByteArray) (w : World) (hs : s.size ≤ maxLen) :
    Calls Tryz.prog 49 #[.string s] w fun e w' => e = .returned (.bool (wordB s.data.toList)) ∧ w = w' := by
  have hs' := hs
  unfold maxLen at hs'
  have hl := size_toList s
  by_cases h1 : 1 ≤ s.size
  · by_cases h2 : s.size ≤ 10
    · have HW : Hid (wordB s.data.toList = allB s.data.toList) := Lib.hid (by unfold wordB allB; rw [hl]; simp [h1, h2])
      have h1' : (1 : Int) ≤ s.size := by omega
      have h2' : (s.size : Int) ≤ 10 := by omega
      clear hl
      go_enter Tryz.func49, Tryz.ntmps49
      go_wp2_with (go_at_call 83; refine (rall_any _ _ hs).mono ?_; rintro e w' ⟨rfl, rfl⟩)
      go_ret
      exact ⟨ret_bool HW.out.symm, rfl⟩
    · have HW : Hid (wordB s.data.toList = false) := Lib.hid (by unfold wordB; rw [hl]; simp [h2])
      have h2' : decide ((s.size : Int) ≤ 10) = false := decide_eq_false (by omega)
      have h1' : (1 : Int) ≤ s.size := by omega
      clear hl
      go_enter Tryz.func49, Tryz.ntmps49
      go_wp2_with fail
      go_ret
      exact ⟨ret_bool HW.out.symm, rfl⟩
  · have HW : Hid (wordB s.data.toList = false) := Lib.hid (by unfold wordB; rw [hl]; simp [h1])
    have h1' : decide ((1 : Int) ≤ s.size) = false := decide_eq_false (by omega)
    clear hl
    go_enter Tryz.func49, Tryz.ntmps49
    go_wp2_with fail
    go_ret
    exact ⟨ret_bool HW.out.symm, rfl⟩
end Go.Proofs.YtjhkgfbkpgnodaaGreatDoor

/-! A letter cut out of all letters. -/
namespace Go.Proofs.YtjhkgfbkpgnodaaGreatDoor
open Go.RowKit Go.Shelf

theorem cut_run2 (v y : Int) (w : World) (h0 : 0 ≤ v) (h1 : v < 29) (hy : y = v + 1) : (Instr.slice 9 (.string ⟨#[43, 97, 98, 99, 100, 101, 102, 103, 104, 105, 106, 107, 108, 109, 110, 111, 112, 113, 114, 115, 116, 117, 118, 119, 120, 121, 122, 42, 35]⟩) (some (.int .i64 v)) (some (.int .i64 y)) none).run Tryz.prog w = .ok (.string (B (signL v))) w := by
  have := cut_run v h0 w
  rw [Int.emod_eq_of_lt h0 h1, ← hy] at this
  exact this
end Go.Proofs.YtjhkgfbkpgnodaaGreatDoor
