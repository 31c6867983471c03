/- The reference's Pack. -/
import Derived.Test.YtglhlfabfcneeaaDoorP0
import Derived.Test.YtglhlfabfcneeaaDoorA3
namespace Go.Proofs.YtglhlfabfcneeaaDoor
open Go.RowKit Go.Shelf

theorem valid_alt (k n : Int) (t : List UInt8) : validB k n t = (decide (0 ≤ n) && decide (n ≤ 675) && (decide (k = 1) && decide (t.length ≤ 7) && allB t || decide (k = 2) && t.isEmpty)) := by
  unfold validB wordB allB
  cases t with
  | nil => simp
  | cons c t =>
    simp only [List.isEmpty_cons, Bool.false_or]
    by_cases h : (c :: t).length ≤ 7
    · rw [decide_eq_true h, decide_eq_true (show 1 ≤ (c :: t).length by simp), decide_eq_true (show (c :: t).length ≤ 10 by omega)]; simp
    · rw [decide_eq_false h]; simp

theorem cut_run2 (v y : Int) (w : World) (h0 : 0 ≤ v) (h1 : v < 29) (hy : y = v + 1) : (Instr.slice 9 (.string ⟨#[43, 97, 98, 99, 100, 101, 102, 103, 104, 105, 106, 107, 108, 109, 110, 111, 112, 113, 114, 115, 116, 117, 118, 119, 120, 121, 122, 42, 35]⟩) (some (.int .i64 v)) (some (.int .i64 y)) none).run Tryd.prog w = .ok (.string (B (signL v))) w := by
  have := cut_run v h0 w
  rw [Int.emod_eq_of_lt h0 h1, ← hy] at this
  exact this

set_option maxRecDepth 100000 in
set_option maxHeartbeats 1000000 in
theorem rpack_any (k n : Int) (t : ByteArray) (w : World) (hs : t.size ≤ maxLen) :
    Calls Tryd.prog 42 #[.agg #[.int .i64 k, .int .i64 n, .string t]] w fun e w' => e = .returned (packV k n t.data.toList) ∧ Below w.heap.size w w' := by
  have hB := (Below.refl w.heap.size w).alloc (Nat.le_refl _) (.cells #[.int .i64 k, .int .i64 n, .string t] 65)
  have HB := Lib.hid hB
  have HL := Lib.hid (size_toList t)
  have hs' := hs
  unfold maxLen at hs'
  clear hB
  by_cases hk : k = 1
  · by_cases h7 : t.size ≤ 7
    · cases hal : allB t.data.toList
      · subst hk
        have HAL : Hid (allB t.data.toList = false) := Lib.hid hal
        have h7i : (t.size : Int) ≤ 7 := by omega
        by_cases hn0 : n < 0
        · have HV : Hid (packV 1 n t.data.toList = .tuple #[.string ⟨#[]⟩, .int .i64 1]) := Lib.hid (by
            have : validB 1 n t.data.toList = false := by rw [valid_alt, decide_eq_false (show ¬ 0 ≤ n by omega)]; simp
            simp [packV, this])
          clear hal h7
          go_enter Tryd.func42, Tryd.ntmps42
          go_wp2_with (go_at_call 49; refine (rall_any _ _ hs).mono ?_; rintro e w' ⟨rfl, rfl⟩; rw [HAL.out])
          go_ret2
          exact ⟨ret_val HV.out.symm, HB.out⟩
        · by_cases hn1 : 675 < n
          · have HV : Hid (packV 1 n t.data.toList = .tuple #[.string ⟨#[]⟩, .int .i64 1]) := Lib.hid (by
              have : validB 1 n t.data.toList = false := by rw [valid_alt, decide_eq_false (show ¬ n ≤ 675 by omega)]; simp
              simp [packV, this])
            clear hal h7
            go_enter Tryd.func42, Tryd.ntmps42
            go_wp2_with (go_at_call 49; refine (rall_any _ _ hs).mono ?_; rintro e w' ⟨rfl, rfl⟩; rw [HAL.out])
            go_ret2
            exact ⟨ret_val HV.out.symm, HB.out⟩
          · have HV : Hid (packV 1 n t.data.toList = .tuple #[.string ⟨#[]⟩, .int .i64 1]) := Lib.hid (by
              have : validB 1 n t.data.toList = false := by rw [valid_alt, hal]; simp
              simp [packV, this])
            clear hal h7
            go_enter Tryd.func42, Tryd.ntmps42
            go_wp2_with (go_at_call 49; refine (rall_any _ _ hs).mono ?_; rintro e w' ⟨rfl, rfl⟩; rw [HAL.out])
            go_ret2
            exact ⟨ret_val HV.out.symm, HB.out⟩
      · subst hk
        have HAL : Hid (allB t.data.toList = true) := Lib.hid hal
        have h7i : (t.size : Int) ≤ 7 := by omega
        by_cases hn0 : n < 0
        · have HV : Hid (packV 1 n t.data.toList = .tuple #[.string ⟨#[]⟩, .int .i64 1]) := Lib.hid (by
            have : validB 1 n t.data.toList = false := by rw [valid_alt, decide_eq_false (show ¬ 0 ≤ n by omega)]; simp
            simp [packV, this])
          clear hal h7
          go_enter Tryd.func42, Tryd.ntmps42
          go_wp2_with (go_at_call 49; refine (rall_any _ _ hs).mono ?_; rintro e w' ⟨rfl, rfl⟩; rw [HAL.out])
          go_ret2
          exact ⟨ret_val HV.out.symm, HB.out⟩
        · by_cases hn1 : 675 < n
          · have HV : Hid (packV 1 n t.data.toList = .tuple #[.string ⟨#[]⟩, .int .i64 1]) := Lib.hid (by
              have : validB 1 n t.data.toList = false := by rw [valid_alt, decide_eq_false (show ¬ n ≤ 675 by omega)]; simp
              simp [packV, this])
            clear hal h7
            go_enter Tryd.func42, Tryd.ntmps42
            go_wp2_with (go_at_call 49; refine (rall_any _ _ hs).mono ?_; rintro e w' ⟨rfl, rfl⟩; rw [HAL.out])
            go_ret2
            exact ⟨ret_val HV.out.symm, HB.out⟩
          · have HV : Hid (packV 1 n t.data.toList = .tuple #[.string (B (109 :: (signL (n / 26 + 1) ++ signL (n % 26 + 1) ++ t.data.toList))), .int .i64 0]) := Lib.hid (by
              have : validB 1 n t.data.toList = true := by rw [valid_alt, hal, decide_eq_true (show t.data.toList.length ≤ 7 from by rw [HL.out]; exact h7)]; simp; omega
              simp [packV, this])
            have D1 : Hid (IntKind.i64.wrap (n.tdiv 26) = n / 26) := Lib.hid (by rw [Int.tdiv_eq_ediv_of_nonneg (by omega), IntWalk.i64_in _ (by omega)])
            have D2 : Hid (IntKind.i64.wrap (n / 26 + 1) = n / 26 + 1) := Lib.hid (IntWalk.i64_in _ (by omega))
            have D3 : Hid (IntKind.i64.wrap (n / 26 + 2) = n / 26 + 2) := Lib.hid (IntWalk.i64_in _ (by omega))
            have D4 : Hid (IntKind.i64.wrap (n.tmod 26 + 1) = n % 26 + 1) := Lib.hid (by rw [Int.tmod_eq_emod_of_nonneg (by omega), IntWalk.i64_in _ (by omega)])
            have D5 : Hid (IntKind.i64.wrap (n.tmod 26 + 2) = n % 26 + 2) := Lib.hid (by rw [Int.tmod_eq_emod_of_nonneg (by omega), IntWalk.i64_in _ (by omega)])
            have s1 := fun w => cut_run2 (n / 26 + 1) (n / 26 + 2) w (by omega) (by omega) (by omega)
            have s2 := fun w => cut_run2 (n % 26 + 1) (n % 26 + 2) w (by omega) (by omega) (by omega)
            clear hal h7
            go_enter Tryd.func42, Tryd.ntmps42
            go_wp2_with (first | (go_at_call 49; refine (rall_any _ _ hs).mono ?_; rintro e w' ⟨rfl, rfl⟩; rw [HAL.out]) | (go_at_call 46; refine (rletters_any _).mono ?_; rintro e w' ⟨rfl, rfl⟩))
            have d1 := D1.out; have d2 := D2.out; have d3 := D3.out; have d4 := D4.out; have d5 := D5.out
            go_quiet (fail)
            clear d1 d2 d3 d4 d5
            go_wp2_with fail
            go_ret2
            exact ⟨ret_val (HV.out.trans (congrArg (fun x => Value.tuple #[.string x, .int .i64 0]) (ext_L (by simp [ByteArray.data_append])))).symm, below_drewN HB.out _⟩
    · subst hk
      have h7i : decide ((t.size : Int) ≤ 7) = false := decide_eq_false (by omega)
      by_cases hn0 : n < 0
      · have HV : Hid (packV 1 n t.data.toList = .tuple #[.string ⟨#[]⟩, .int .i64 1]) := Lib.hid (by
          have : validB 1 n t.data.toList = false := by rw [valid_alt, decide_eq_false (show ¬ 0 ≤ n by omega)]; simp
          simp [packV, this])
        clear h7
        go_enter Tryd.func42, Tryd.ntmps42
        go_wp2_with fail
        go_ret2
        exact ⟨ret_val HV.out.symm, HB.out⟩
      · by_cases hn1 : 675 < n
        · have HV : Hid (packV 1 n t.data.toList = .tuple #[.string ⟨#[]⟩, .int .i64 1]) := Lib.hid (by
            have : validB 1 n t.data.toList = false := by rw [valid_alt, decide_eq_false (show ¬ n ≤ 675 by omega)]; simp
            simp [packV, this])
          clear h7
          go_enter Tryd.func42, Tryd.ntmps42
          go_wp2_with fail
          go_ret2
          exact ⟨ret_val HV.out.symm, HB.out⟩
        · have HV : Hid (packV 1 n t.data.toList = .tuple #[.string ⟨#[]⟩, .int .i64 1]) := Lib.hid (by
            have : validB 1 n t.data.toList = false := by rw [valid_alt, decide_eq_false (show ¬ t.data.toList.length ≤ 7 from by rw [HL.out]; exact h7)]; simp
            simp [packV, this])
          clear h7
          go_enter Tryd.func42, Tryd.ntmps42
          go_wp2_with fail
          go_ret2
          exact ⟨ret_val HV.out.symm, HB.out⟩
  · by_cases hk2 : k = 2
    · by_cases ht : t.toList = []
      · subst hk2
        have hE : t.toList.isEmpty = true := by simp [ht]
        have hN : t.toList = [] := ht
        have HT : Hid (t.data = #[]) := Lib.hid (by apply Array.toList_inj.1; rw [← toList_L]; exact ht)
        by_cases hn0 : n < 0
        · have HV : Hid (packV 2 n t.data.toList = .tuple #[.string ⟨#[]⟩, .int .i64 1]) := Lib.hid (by
            have : validB 2 n t.data.toList = false := by rw [valid_alt, decide_eq_false (show ¬ 0 ≤ n by omega)]; simp
            simp [packV, this])
          clear ht
          go_enter Tryd.func42, Tryd.ntmps42
          go_wp2_with fail
          go_ret2
          exact ⟨ret_val HV.out.symm, HB.out⟩
        · by_cases hn1 : 675 < n
          · have HV : Hid (packV 2 n t.data.toList = .tuple #[.string ⟨#[]⟩, .int .i64 1]) := Lib.hid (by
              have : validB 2 n t.data.toList = false := by rw [valid_alt, decide_eq_false (show ¬ n ≤ 675 by omega)]; simp
              simp [packV, this])
            clear ht
            go_enter Tryd.func42, Tryd.ntmps42
            go_wp2_with fail
            go_ret2
            exact ⟨ret_val HV.out.symm, HB.out⟩
          · have HV : Hid (packV 2 n t.data.toList = .tuple #[.string (B (114 :: (signL (n / 26 + 1) ++ signL (n % 26 + 1) ++ t.data.toList))), .int .i64 0]) := Lib.hid (by
              have : validB 2 n t.data.toList = true := by rw [valid_alt]; rw [show t.data.toList.isEmpty = true from by rw [← toList_L, ht]; rfl]; simp; omega
              simp [packV, this])
            have D1 : Hid (IntKind.i64.wrap (n.tdiv 26) = n / 26) := Lib.hid (by rw [Int.tdiv_eq_ediv_of_nonneg (by omega), IntWalk.i64_in _ (by omega)])
            have D2 : Hid (IntKind.i64.wrap (n / 26 + 1) = n / 26 + 1) := Lib.hid (IntWalk.i64_in _ (by omega))
            have D3 : Hid (IntKind.i64.wrap (n / 26 + 2) = n / 26 + 2) := Lib.hid (IntWalk.i64_in _ (by omega))
            have D4 : Hid (IntKind.i64.wrap (n.tmod 26 + 1) = n % 26 + 1) := Lib.hid (by rw [Int.tmod_eq_emod_of_nonneg (by omega), IntWalk.i64_in _ (by omega)])
            have D5 : Hid (IntKind.i64.wrap (n.tmod 26 + 2) = n % 26 + 2) := Lib.hid (by rw [Int.tmod_eq_emod_of_nonneg (by omega), IntWalk.i64_in _ (by omega)])
            have s1 := fun w => cut_run2 (n / 26 + 1) (n / 26 + 2) w (by omega) (by omega) (by omega)
            have s2 := fun w => cut_run2 (n % 26 + 1) (n % 26 + 2) w (by omega) (by omega) (by omega)
            clear ht
            go_enter Tryd.func42, Tryd.ntmps42
            go_wp2_with (go_at_call 46; refine (rletters_any _).mono ?_; rintro e w' ⟨rfl, rfl⟩)
            have d1 := D1.out; have d2 := D2.out; have d3 := D3.out; have d4 := D4.out; have d5 := D5.out
            go_quiet (fail)
            clear d1 d2 d3 d4 d5
            go_wp2_with fail
            go_ret2
            exact ⟨ret_val (HV.out.trans (congrArg (fun x => Value.tuple #[.string x, .int .i64 0]) (ext_L (by simp [ByteArray.data_append, HT.out])))).symm, below_drewN HB.out _⟩
      · subst hk2
        have hE : t.toList.isEmpty = false := by simpa using ht
        by_cases hn0 : n < 0
        · have HV : Hid (packV 2 n t.data.toList = .tuple #[.string ⟨#[]⟩, .int .i64 1]) := Lib.hid (by
            have : validB 2 n t.data.toList = false := by rw [valid_alt, decide_eq_false (show ¬ 0 ≤ n by omega)]; simp
            simp [packV, this])
          clear ht
          go_enter Tryd.func42, Tryd.ntmps42
          go_wp2_with fail
          go_ret2
          exact ⟨ret_val HV.out.symm, HB.out⟩
        · by_cases hn1 : 675 < n
          · have HV : Hid (packV 2 n t.data.toList = .tuple #[.string ⟨#[]⟩, .int .i64 1]) := Lib.hid (by
              have : validB 2 n t.data.toList = false := by rw [valid_alt, decide_eq_false (show ¬ n ≤ 675 by omega)]; simp
              simp [packV, this])
            clear ht
            go_enter Tryd.func42, Tryd.ntmps42
            go_wp2_with fail
            go_ret2
            exact ⟨ret_val HV.out.symm, HB.out⟩
          · have HV : Hid (packV 2 n t.data.toList = .tuple #[.string ⟨#[]⟩, .int .i64 1]) := Lib.hid (by
              have : validB 2 n t.data.toList = false := by rw [valid_alt]; rw [show t.data.toList.isEmpty = false from by rw [← toList_L]; simpa using ht]; simp
              simp [packV, this])
            clear ht
            go_enter Tryd.func42, Tryd.ntmps42
            go_wp2_with fail
            go_ret2
            exact ⟨ret_val HV.out.symm, HB.out⟩
    · have hka := hk; have hkb := hk2
      clear hk hk2
      have hk1' : (k == 1) = false := by simpa using hka
      have hk2' : (k == 2) = false := by simpa using hkb
      by_cases hn0 : n < 0
      · have HV : Hid (packV k n t.data.toList = .tuple #[.string ⟨#[]⟩, .int .i64 1]) := Lib.hid (by
          have : validB k n t.data.toList = false := by rw [valid_alt, decide_eq_false (show ¬ 0 ≤ n by omega)]; simp
          simp [packV, this])
        clear hka hkb
        go_enter Tryd.func42, Tryd.ntmps42
        go_wp2_with fail
        go_ret2
        exact ⟨ret_val HV.out.symm, HB.out⟩
      · by_cases hn1 : 675 < n
        · have HV : Hid (packV k n t.data.toList = .tuple #[.string ⟨#[]⟩, .int .i64 1]) := Lib.hid (by
            have : validB k n t.data.toList = false := by rw [valid_alt, decide_eq_false (show ¬ n ≤ 675 by omega)]; simp
            simp [packV, this])
          clear hka hkb
          go_enter Tryd.func42, Tryd.ntmps42
          go_wp2_with fail
          go_ret2
          exact ⟨ret_val HV.out.symm, HB.out⟩
        · have HV : Hid (packV k n t.data.toList = .tuple #[.string ⟨#[]⟩, .int .i64 1]) := Lib.hid (by
            have : validB k n t.data.toList = false := by rw [valid_alt, decide_eq_false hka, decide_eq_false hkb]; simp
            simp [packV, this])
          clear hka hkb
          go_enter Tryd.func42, Tryd.ntmps42
          go_wp2_with fail
          go_ret2
          exact ⟨ret_val HV.out.symm, HB.out⟩
end Go.Proofs.YtglhlfabfcneeaaDoor
