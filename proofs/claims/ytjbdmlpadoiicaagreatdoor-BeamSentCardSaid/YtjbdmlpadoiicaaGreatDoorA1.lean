/- Contracts of the small functions of package beam. -/
import Derived.Test.YtjbdmlpadoiicaaGreatDoorRows
import Derived.Test.YtjbdmlpadoiicaaGreatDoorM0
import Derived.WalkLawsBesides
import Derived.Test.YtjbdmlpadoiicaaGreatDoorShelf
import Derived.Outline
import Derived.Deep.QuietTactic
import Derived.BigQuiet
set_option linter.unusedVariables false
set_option linter.unusedSimpArgs false
namespace Go.Proofs.YtjbdmlpadoiicaaGreatDoor
open Go.RowKit Go.Shelf

theorem word_any (s : ByteArray) (w : World) (hs : s.size ≤ maxLen) :
    Calls Tryz.prog 46 #[.string s] w fun e w' => e = .returned (.bool (wordB s.data.toList)) ∧ w = w' := by
  unfold maxLen at hs
  by_cases h1 : s.size < 1
  · have hz : wordB s.data.toList = false := by
      simp [wordB]; intro h; omega
    have Hz := Lib.hid hz
    clear hz
    go_enter Tryz.func46, Tryz.ntmps46
    go_wp2
    go_ret
    exact ⟨ret_bool Hz.out.symm, rfl⟩
  · by_cases h2 : 10 < s.size
    · have hz : wordB s.data.toList = false := by
        simp [wordB]; intro _ h; omega
      have Hz := Lib.hid hz
      clear hz
      go_enter Tryz.func46, Tryz.ntmps46
      go_wp2
      go_ret
      exact ⟨ret_bool Hz.out.symm, rfl⟩
    · go_enter Tryz.func46, Tryz.ntmps46
      go_wp2
      go_loop [3, 14] (fun _ i => ∃ k : Nat, k ≤ s.size ∧ i = .int .i64 k ∧ Hid ((s.data.toList.take k).all letB = true)) (fun _ i => s.size - (intOf i).toNat)
      case atStart => exact ⟨0, Nat.zero_le _, rfl, Lib.hid rfl⟩
      case round =>
        obtain ⟨k, hk, rfl, hall⟩ := hrel
        by_cases hlt : k < s.size
        · have hno := fun h => Lib.hid (all_no letB s k hlt (letB_no h))
          have hyes := fun h1 h2 => Lib.hid (all_take letB s k hlt hall.out (letB_yes h1 h2))
          go_wp2
          · go_ret
            exact ⟨ret_bool (by simp [wordB, (hno (by omega)).out]), rfl⟩
          · go_round
            case rel => exact ⟨k + 1, by omega, by go_num, hyes (by omega) (by omega)⟩
            case measure => simp [intOf]; omega
          · go_ret
            exact ⟨ret_bool (by simp [wordB, (hno (by omega)).out]), rfl⟩
        · go_wp2
          go_ret
          exact ⟨ret_bool (by rw [take_all hlt] at hall; simp [wordB, hall.out]; omega), rfl⟩

theorem value_any (b : UInt8) (w : World) :
    Calls Tryz.prog 61 #[.int .u8 b.toNat] w fun e w' => e = .returned (.int .i64 (valI b)) ∧ w = w' := by
  go_enter Tryz.func61, Tryz.ntmps61
  go_wp2_with fail
  refine (Tryz.strings_IndexByte _ _ _).mono ?_
  rintro e w' ⟨rfl, rfl⟩
  go_wp2
  go_ret
  exact ⟨ret_int (by simp [valI, signsL]), rfl⟩

theorem signs_cut (k : Nat) (h : k < 29) : (⟨#[43, 97, 98, 99, 100, 101, 102, 103, 104, 105, 106, 107, 108, 109, 110, 111, 112, 113, 114, 115, 116, 117, 118, 119, 120, 121, 122, 42, 35]⟩ : ByteArray).extract k (k + 1) = B [signsL.getD k 0] := by
  apply ext_L
  have : ∀ k : Fin 29, ((⟨#[43, 97, 98, 99, 100, 101, 102, 103, 104, 105, 106, 107, 108, 109, 110, 111, 112, 113, 114, 115, 116, 117, 118, 119, 120, 121, 122, 42, 35]⟩ : ByteArray).extract k (k + 1)).data.toList = [signsL.getD k 0] := by decide +kernel
  simpa using this ⟨k, h⟩

theorem cut_run (v : Int) (h0 : 0 ≤ v) (w : World) : (Instr.slice 9 (.string ⟨#[43, 97, 98, 99, 100, 101, 102, 103, 104, 105, 106, 107, 108, 109, 110, 111, 112, 113, 114, 115, 116, 117, 118, 119, 120, 121, 122, 42, 35]⟩) (some (.int .i64 (v % 29))) (some (.int .i64 (v % 29 + 1))) none).run Tryz.prog w = .ok (.string (B (signL v))) w := by
  have h1 : 0 ≤ v % 29 := Int.emod_nonneg _ (by decide)
  have h2 : v % 29 < 29 := Int.emod_lt_of_pos _ (by decide)
  rw [run_slice_string _ _ _ _ _ _ _ Tryz.underlying9 h1 (by omega) (by simp [ByteArray.size]; omega)]
  have e : (v % 29 + 1).toNat = (v % 29).toNat + 1 := by omega
  rw [e, signs_cut _ (by omega)]
  rfl

set_option maxRecDepth 100000 in
theorem sign_any (v : Int) (w : World) (h0 : 0 ≤ v) (h1 : v ≤ 1000000) :
    Calls Tryz.prog 62 #[.int .i64 v] w fun e w' => e = .returned (.string (B (signL v))) ∧ w = w' := by
  have hsl := fun w => cut_run v h0 w
  go_enter Tryz.func62, Tryz.ntmps62
  go_wp2
  go_ret
  exact ⟨rfl, rfl⟩

theorem checkFlashes_any (s : ByteArray) (m : Int) (w : World) (hs : s.size ≤ maxLen) :
    Calls Tryz.prog 31 #[.string s, .int .i64 m] w fun e w' => e = .returned (.int .i64 (flashE s.data.toList m)) ∧ w = w' := by
  unfold maxLen at hs
  by_cases h1 : m < s.size
  · go_enter Tryz.func31, Tryz.ntmps31
    go_wp2
    go_ret
    exact ⟨ret_int (by simp [flashE]; intro; omega), rfl⟩
  · go_enter Tryz.func31, Tryz.ntmps31
    go_wp2
    go_loop [5, 12, 18] (fun _ i _ => ∃ k : Nat, k ≤ s.size ∧ i = .int .i64 k ∧ Hid ((s.data.toList.take k).all flashB = true)) (fun _ i _ => s.size - (intOf i).toNat)
    case atStart => exact ⟨0, Nat.zero_le _, rfl, Lib.hid rfl⟩
    case round =>
      obtain ⟨k, hk, rfl, hall⟩ := hrel
      by_cases hlt : k < s.size
      · have hno := fun h => Lib.hid (all_no flashB s k hlt h)
        have hyes := fun h1 => Lib.hid (all_take flashB s k hlt hall.out h1)
        go_wp2
        · go_round
          case rel => exact ⟨k + 1, by omega, by go_num, hyes (by simp_all [flashB])⟩
          case measure => simp [intOf]; omega
        · go_round
          case rel => exact ⟨k + 1, by omega, by go_num, hyes (by simp_all [flashB])⟩
          case measure => simp [intOf]; omega
        · go_round
          case rel => exact ⟨k + 1, by omega, by go_num, hyes (by simp_all [flashB])⟩
          case measure => simp [intOf]; omega
        · go_ret
          exact ⟨ret_int (by simp [flashE, (hno (by simp_all [flashB])).out]; omega), rfl⟩
      · go_wp2
        go_ret
        exact ⟨ret_int (by rw [take_all hlt] at hall; simp [flashE, hall.out]; omega), rfl⟩

def faultsE (n : Int) : Int := if n < 0 ∨ 2 < n then 1 else 0
theorem checkFaults_any (n : Int) (w : World) :
    Calls Tryz.prog 32 #[.int .i64 n] w fun e w' => e = .returned (.int .i64 (faultsE n)) ∧ w = w' := by
  by_cases h : n < 0
  · go_enter Tryz.func32, Tryz.ntmps32
    go_wp2
    go_ret
    exact ⟨ret_int (by simp [faultsE, h]), rfl⟩
  · by_cases h' : 2 < n
    · go_enter Tryz.func32, Tryz.ntmps32
      go_wp2
      go_ret
      exact ⟨ret_int (by simp [faultsE, h']), rfl⟩
    · go_enter Tryz.func32, Tryz.ntmps32
      go_wp2
      go_ret
      exact ⟨ret_int (by simp [faultsE, h, h']), rfl⟩

def widthI (k : Int) : Int := if k = 1 ∨ k = 2 then 1 else if k = 3 then 2 else 0
theorem width_any (k : Int) (w : World) :
    Calls Tryz.prog 93 #[.int .i64 k] w fun e w' => e = .returned (.int .i64 (widthI k)) ∧ w = w' := by
  go_enter Tryz.func93, Tryz.ntmps93
  go_wp2
  all_goals
    go_ret
    exact ⟨ret_int (by simp_all [widthI]), rfl⟩
end Go.Proofs.YtjbdmlpadoiicaaGreatDoor

/-! Contracts of Checks, Time, Pack and Unpack of package beam. -/
namespace Go.Proofs.YtjbdmlpadoiicaaGreatDoor
open Go.RowKit Go.Shelf

theorem checks_any (s : ByteArray) (w : World) (hs : s.size ≤ maxLen) :
    Calls Tryz.prog 24 #[.string s] w fun e w' => e = .returned (checksV s.data.toList) ∧ w = w' := by
  have hs' := hs
  unfold maxLen at hs'
  by_cases hw : wordB s.data.toList = true
  · obtain ⟨h1, h2, h3⟩ := word_parts hw
    have Hw := Lib.hid hw
    have H3 := Lib.hid h3
    have h1' : 1 ≤ s.size := h1
    have h2' : s.size ≤ 10 := h2
    clear hw h3 h1 h2
    go_enter Tryz.func24, Tryz.ntmps24
    go_wp2_with fail
    refine (word_any _ _ hs).mono ?_
    rintro e w' ⟨rfl, rfl⟩
    rw [Hw.out]
    go_wp2
    go_loop [5, 6, 7, 8, 14] (fun p q _ _ i => ∃ k : Nat, k ≤ s.size ∧ i = .int .i64 k ∧ p = .int .i64 (plainK s.data.toList k) ∧ q = .int .i64 (weighK s.data.toList k)) (fun _ _ _ _ i => s.size - (intOf i).toNat)
    case atStart => exact ⟨0, Nat.zero_le _, rfl, rfl, rfl⟩
    case round =>
      obtain ⟨k, hk, rfl, rfl, rfl⟩ := hrel
      have hp := plainK_bd H3.out k hk h2'
      have hq := weighK_bd H3.out k hk h2'
      by_cases hlt : k < s.size
      · have hv := valI_let_bd _ (getD_all H3.out (i := k) hlt)
        have hv' : s.data.toList.getD k 0 = s[k] := (bat_eq s k hlt).symm
        rw [hv'] at hv
        have Hv := Lib.hid hv'
        clear hv'
        have hm := mul_bd (a := (k : Int) + 1) (v := valI s[k]) (by omega) (by omega) hv.1 hv.2
        go_wp2_with (go_at_call 61; refine (value_any _ _).mono ?_; rintro e w' ⟨rfl, rfl⟩)
        go_round
        case rel => exact ⟨k + 1, by omega, by go_num, by rw [plainK_succ, Hv.out], by rw [weighK_succ, Hv.out]⟩
        case measure => simp [intOf]; omega
      · obtain rfl : k = s.size := by omega
        go_wp2_with (go_at_call 62; refine (sign_any _ _ (by omega) (by omega)).mono ?_; rintro e w' ⟨rfl, rfl⟩)
        go_ret3
        exact ⟨ret_val (by simp only [checksV, Hw.out, if_true]; rw [B_app]; rfl), rfl⟩
  · have Hw : Hid (wordB s.data.toList = false) := Lib.hid (by simpa using hw)
    clear hw
    go_enter Tryz.func24, Tryz.ntmps24
    go_wp2_with fail
    refine (word_any _ _ hs).mono ?_
    rintro e w' ⟨rfl, rfl⟩
    rw [Hw.out]
    go_wp2
    go_ret3
    exact ⟨ret_val (by simp [checksV, Hw.out]), rfl⟩

theorem time_any (s : ByteArray) (w : World) (hs : s.size ≤ maxLen) :
    Calls Tryz.prog 29 #[.string s] w fun e w' => e = .returned (timeV s.data.toList) ∧ w = w' := by
  have hs' := hs
  unfold maxLen at hs'
  by_cases hw : flashE s.data.toList 4000 = 0
  · have h1 : s.size ≤ 4000 := by
      unfold flashE at hw; split at hw
      · cases hw
      · rename_i h; have := size_toList s; omega
    have Hw := Lib.hid hw
    clear hw
    go_enter Tryz.func29, Tryz.ntmps29
    go_wp2_with fail
    refine (checkFlashes_any _ _ _ hs).mono ?_
    rintro e w' ⟨rfl, rfl⟩
    rw [Hw.out]
    go_wp2
    go_loop [5, 6, 14] (fun p _ i => ∃ k : Nat, k ≤ s.size ∧ i = .int .i64 k ∧ p = .int .i64 (costK s.data.toList k)) (fun _ _ i => s.size - (intOf i).toNat)
    case atStart => exact ⟨0, Nat.zero_le _, rfl, rfl⟩
    case round =>
      obtain ⟨k, hk, rfl, rfl⟩ := hrel
      have hp := costK_bd s.data.toList k
      by_cases hlt : k < s.size
      · have Hv := Lib.hid (costK_at s k hlt)
        go_wp2
        all_goals
          go_round
          case rel => exact ⟨k + 1, by omega, by go_num, by rw [Hv.out]; simp_all [costI]⟩
          case measure => simp [intOf]; omega
      · obtain rfl : k = s.size := by omega
        go_wp2
        go_ret2
        exact ⟨ret_val (by simp only [timeV, Hw.out, if_true]; rfl), rfl⟩
  · have Hw := Lib.hid hw
    have hb : (flashE s.data.toList 4000 != 0) = true := by simpa using hw
    clear hw
    go_enter Tryz.func29, Tryz.ntmps29
    go_wp2_with fail
    refine (checkFlashes_any _ _ _ hs).mono ?_
    rintro e w' ⟨rfl, rfl⟩
    go_wp2
    go_ret2
    exact ⟨ret_val (by simp only [timeV]; rw [if_neg Hw.out]; rfl), rfl⟩

/-! ### Telegrams -/
def telV (k n : Int) (t : List UInt8) : Value := .agg #[.int .i64 k, .int .i64 n, .string (B t)]

theorem valid_any (k n : Int) (t : ByteArray) (w : World) (hs : t.size ≤ maxLen) :
    Calls Tryz.prog 68 #[.agg #[.int .i64 k, .int .i64 n, .string t]] w fun e w' => e = .returned (.bool (validB k n t.data.toList)) ∧ Below w.heap.size w w' := by
  have hb := (Below.refl w.heap.size w).alloc (Nat.le_refl _) (.cells #[.int .i64 k, .int .i64 n, .string t] 73)
  by_cases h0 : n < 0
  · go_enter Tryz.func68, Tryz.ntmps68
    go_wp2_with fail
    go_ret
    exact ⟨ret_bool (by simp [validB]; omega), hb⟩
  by_cases h1 : 675 < n
  · go_enter Tryz.func68, Tryz.ntmps68
    go_wp2_with fail
    go_ret
    exact ⟨ret_bool (by simp [validB]; omega), hb⟩
  by_cases hk1 : k = 1
  · subst hk1
    by_cases ht : t.toList = []
    · have hE : t.toList.isEmpty = true := by simp [ht]
      have ht' := Lib.hid ((toList_L t).symm.trans ht)
      go_enter Tryz.func68, Tryz.ntmps68
      go_wp2_with fail
      go_ret
      exact ⟨ret_bool (by simp only [validB, ht'.out]; simp; omega), hb⟩
    · have hE : t.toList.isEmpty = false := by simpa using ht
      by_cases hw : wordB t.data.toList = true
      · have hfin : validB 1 n t.data.toList = decide ((t.size : Int) ≤ 7) := by
          have e : t.data.toList.isEmpty = false := by simpa [toList_L] using ht
          have hl := size_toList t
          simp only [validB, hw, e, hl, show (0 ≤ n) from by omega, show n ≤ 675 from by omega]; simp; omega
        have Hfin := Lib.hid hfin
        have Hw := Lib.hid hw
        clear hw hfin
        go_enter Tryz.func68, Tryz.ntmps68
        go_wp2_with (go_at_call 46; refine (word_any _ _ hs).mono ?_; rintro e w' ⟨rfl, rfl⟩; rw [Hw.out])
        go_ret
        exact ⟨ret_bool (by rw [Hfin.out]), hb⟩
      · have hfin : validB 1 n t.data.toList = false := by
          have e : t.data.toList.isEmpty = false := by simpa [toList_L] using ht
          simp [validB, hw, e]
        have Hfin := Lib.hid hfin
        have Hw : Hid (wordB t.data.toList = false) := Lib.hid (by simpa using hw)
        clear hw hfin
        go_enter Tryz.func68, Tryz.ntmps68
        go_wp2_with (go_at_call 46; refine (word_any _ _ hs).mono ?_; rintro e w' ⟨rfl, rfl⟩; rw [Hw.out])
        go_ret
        exact ⟨ret_bool (by rw [Hfin.out]), hb⟩
  · have hk1' : (k == 1) = false := by simpa using hk1
    by_cases hk2 : k = 2
    · subst hk2
      go_enter Tryz.func68, Tryz.ntmps68
      go_wp2_with fail
      go_ret
      exact ⟨ret_bool (by simp [validB, h0, h1, toList_L]), hb⟩
    · have hk2' : (k == 2) = false := by simpa using hk2
      go_enter Tryz.func68, Tryz.ntmps68
      go_wp2_with fail
      go_ret
      exact ⟨ret_bool (by simp [validB, hk1, hk2]), hb⟩
end Go.Proofs.YtjbdmlpadoiicaaGreatDoor
