/- Contract of Pack of package beam. -/
import Derived.Test.YtjbdmlpadoiicaaGreatDoorA1
import Derived.Test.YtjbdmlpadoiicaaGreatDoorT0
import Derived.Deep.RegionHeld3
import Derived.Deep.RegionWith
set_option linter.unusedVariables false
set_option linter.unusedSimpArgs false
namespace Go.Proofs.YtjbdmlpadoiicaaGreatDoor
open Go.RowKit Go.Shelf

theorem sign_quiet (v : Int) (w : World) (h0 : 0 ≤ v) (h1 : v ≤ 1000000) :
    Calls Tryz.prog 62 #[.int .i64 v] w fun e w' => e = .returned (.string (B (signL v))) ∧ w' = w :=
  (sign_any v w h0 h1).mono fun _ _ ⟨a, b⟩ => ⟨a, b.symm⟩

def packV (k n : Int) (t : List UInt8) : Value :=
  if validB k n t then .tuple #[.string (B ((if k = 2 then 114 else 109) :: (signL (n / 26 + 1) ++ signL (n % 26 + 1) ++ t))), .int .i64 0]
  else .tuple #[.string ⟨#[]⟩, .int .i64 1]

theorem validB_n {k n : Int} {t : List UInt8} (h : validB k n t = true) : 0 ≤ n ∧ n ≤ 675 ∧ (k = 1 ∨ k = 2) ∧ t.length ≤ 7 := by
  simp only [validB, Bool.and_eq_true, Bool.or_eq_true, decide_eq_true_eq, List.isEmpty_iff] at h
  obtain ⟨⟨h0, h1⟩, ⟨hk, (h | h)⟩ | ⟨hk, h⟩⟩ := h
  · exact ⟨h0, h1, .inl hk, by simp [h]⟩
  · exact ⟨h0, h1, .inl hk, h.2⟩
  · exact ⟨h0, h1, .inr hk, by simp [h]⟩

theorem pack_any (k n : Int) (t : ByteArray) (w : World) (hs : t.size ≤ maxLen) :
    Calls Tryz.prog 28 #[.agg #[.int .i64 k, .int .i64 n, .string t]] w fun e w' => e = .returned (packV k n t.data.toList) ∧ Below w.heap.size w w' := by
  have hB := (Below.refl w.heap.size w).alloc (Nat.le_refl _) (.cells #[.int .i64 k, .int .i64 n, .string t] 73)
  by_cases hv : validB k n t.data.toList = true
  · obtain ⟨hn0, hn1, hk, ht⟩ := validB_n hv
    have ht : t.size ≤ 7 := ht
    have Hv := Lib.hid hv
    clear hv
    have a1 : IntKind.i64.wrap (n.tdiv 26) = n / 26 := by rw [Int.tdiv_eq_ediv_of_nonneg hn0, IntWalk.i64_in _ (by omega)]
    have a2 : IntKind.i64.wrap (n / 26 + 1) = n / 26 + 1 := IntWalk.i64_in _ (by omega)
    have a3 : IntKind.i64.wrap (n.tmod 26 + 1) = n % 26 + 1 := by rw [Int.tmod_eq_emod_of_nonneg hn0, IntWalk.i64_in _ (by omega)]
    have a6 : ¬ 9223372036854775807 < 3 + t.size := by omega
    have A1 := Lib.hid a1; have A2 := Lib.hid a2; have A3 := Lib.hid a3
    clear a1 a2 a3
    rcases hk with rfl | rfl
    all_goals
      go_enter Tryz.func28, Tryz.ntmps28
      go_wp2_with fail
      refine (valid_any _ _ _ _ hs).mono ?_
      rintro e w1 ⟨rfl, hb⟩
      rw [Hv.out]
      have hc0 := (hb.cell (p := ⟨w.heap.size, 0, none⟩) (by simp)).trans (by go_simp; rfl)
      have hc1 : w1.cell? ⟨w.heap.size, 1, none⟩ = some (.int .i64 n) := (hb.cell (p := ⟨w.heap.size, 1, none⟩) (by simp)).trans (by go_simp)
      have hc2 : w1.cell? ⟨w.heap.size, 2, none⟩ = some (.string t) := (hb.cell (p := ⟨w.heap.size, 2, none⟩) (by simp)).trans (by go_simp)
      go_wp2_with fail
      have a1 := A1.out; have a2 := A2.out; have a3 := A3.out
      have a4 : 0 ≤ n / 26 + 1 := by omega
      have a5 : 0 ≤ n % 26 + 1 := by omega
      go_quiet ((go_at_call 62; exact Calls.quiet_of_same (sign_quiet _ _ (by omega) (by omega))))
      go_wp2
      go_ret2
      exact ⟨ret_val (by simp only [packV, Hv.out, if_true]; refine congrArg (fun x => Value.tuple #[.string x, .int .i64 0]) (ext_L ?_); simp [ByteArray.data_append]), below_drewN (hB.trans (hb.mono (by simp))) _⟩
  · have Hv : Hid (validB k n t.data.toList = false) := Lib.hid (by simpa using hv)
    clear hv
    go_enter Tryz.func28, Tryz.ntmps28
    go_wp2_with fail
    refine (valid_any _ _ _ _ hs).mono ?_
    rintro e w1 ⟨rfl, hb⟩
    rw [Hv.out]
    go_wp2
    go_ret2
    exact ⟨ret_val (by simp [packV, Hv.out]), hB.trans (hb.mono (by simp))⟩

end Go.Proofs.YtjbdmlpadoiicaaGreatDoor

/-! The reference's Flashes. -/
namespace Go.Proofs.YtjbdmlpadoiicaaGreatDoor
open Go.RowKit Go.Shelf

theorem rflash_any (c : UInt8) (w : World) :
    Calls Tryz.prog 78 #[.int .u8 c.toNat] w fun e w' => e = .returned (.bool (flashB c)) ∧ w = w' := by
  by_cases h1 : (c.toNat : Int) = 46
  · have q : ((c.toNat : Int) == 46) = true := by simpa using h1
    have HF : Hid (flashB c = true) := Lib.hid (by simp [flashB, h1])
    clear h1
    go_enter Tryz.func78, Tryz.ntmps78
    go_wp2
    go_ret
    exact ⟨ret_bool HF.out.symm, rfl⟩
  · have q : ((c.toNat : Int) == 46) = false := by simpa using h1
    by_cases h2 : (c.toNat : Int) = 45
    · have q2 : ((c.toNat : Int) == 45) = true := by simpa using h2
      have HF : Hid (flashB c = true) := Lib.hid (by simp [flashB, h2])
      clear h1 h2
      go_enter Tryz.func78, Tryz.ntmps78
      go_wp2
      go_ret
      exact ⟨ret_bool HF.out.symm, rfl⟩
    · have q2 : ((c.toNat : Int) == 45) = false := by simpa using h2
      have HF : Hid (flashB c = ((c.toNat : Int) == 47)) := Lib.hid (by simp [flashB, h1, h2]; rw [Bool.eq_iff_iff]; simp)
      clear h1 h2
      go_enter Tryz.func78, Tryz.ntmps78
      go_wp2
      go_ret
      exact ⟨ret_bool HF.out.symm, rfl⟩

theorem rflashes_any (s : ByteArray) (m : Int) (w : World) (hs : s.size ≤ maxLen) :
    Calls Tryz.prog 39 #[.string s, .int .i64 m] w fun e w' => e = .returned (.int .i64 (flashE s.data.toList m)) ∧ w = w' := by
  unfold maxLen at hs
  by_cases h1 : m < s.size
  · go_enter Tryz.func39, Tryz.ntmps39
    go_wp2
    go_ret
    exact ⟨ret_int (by simp [flashE]; intro; omega), rfl⟩
  · go_enter Tryz.func39, Tryz.ntmps39
    go_wp2
    go_loop [5] (fun i => ∃ k : Nat, k ≤ s.size ∧ i = .int .i64 k ∧ Hid ((s.data.toList.take k).all flashB = true)) (fun i => s.size - (intOf i).toNat)
    case atStart => exact ⟨0, Nat.zero_le _, rfl, Lib.hid rfl⟩
    case round =>
      obtain ⟨k, hk, rfl, hall⟩ := hrel
      by_cases hlt : k < s.size
      · cases hf : flashB s[k]
        · have HF := Lib.hid hf
          have HN : Hid (flashE s.data.toList m = 7) := Lib.hid (by
            have := all_no flashB s k hlt hf
            unfold flashE; rw [if_neg (by rw [size_toList]; omega), if_neg (by rw [this]; decide)])
          clear hf
          go_wp2_with fail
          refine (rflash_any _ _).mono ?_
          rintro e w' ⟨rfl, rfl⟩
          rw [HF.out]
          go_wp2_with fail
          go_ret
          exact ⟨ret_int HN.out.symm, rfl⟩
        · have HF := Lib.hid hf
          have HY := Lib.hid (all_take flashB s k hlt hall.out hf)
          clear hf
          go_wp2_with fail
          refine (rflash_any _ _).mono ?_
          rintro e w' ⟨rfl, rfl⟩
          rw [HF.out]
          go_wp2_with fail
          go_round
          case rel => exact ⟨k + 1, by omega, by go_num, HY⟩
          case measure => simp [intOf]; omega
      · have HN : Hid (flashE s.data.toList m = 0) := Lib.hid (by
          have := hall.out
          rw [take_all hlt] at this
          unfold flashE; rw [if_neg (by rw [size_toList]; omega), if_pos this])
        go_wp2
        go_ret
        exact ⟨ret_int HN.out.symm, rfl⟩

end Go.Proofs.YtjbdmlpadoiicaaGreatDoor
