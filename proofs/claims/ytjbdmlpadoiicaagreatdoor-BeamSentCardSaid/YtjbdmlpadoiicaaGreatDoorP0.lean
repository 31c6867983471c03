/- Contracts of the reference's small functions: letters, Value, small, all, Word. -/
import Derived.Test.YtjbdmlpadoiicaaGreatDoorA1
import Derived.Test.YtjbdmlpadoiicaaGreatDoorB3
import Derived.Test.YtjbdmlpadoiicaaGreatDoorC1
import Derived.Laws.Rows
import Derived.Laws.Tables
import Derived.Test.YtjbdmlpadoiicaaGreatDoorT0
set_option linter.unusedVariables false
set_option linter.unusedSimpArgs false
namespace Go.Proofs.YtjbdmlpadoiicaaGreatDoor
open Go.RowKit Go.Shelf

theorem valI_at (b : UInt8) (k : Nat) (hk : k < 29) (h : signsL.getD k 0 = b) : valI b = k := by
  have : ∀ k : Fin 29, valI (signsL.getD k 0) = (k : Nat) := by decide +kernel
  rw [← h]; exact this ⟨k, hk⟩
theorem valI_none (b : UInt8) (h : ∀ j, j < 29 → signsL.getD j 0 ≠ b) : valI b = -1 := by
  have : ∀ c : UInt8, (valI c = -1 ∨ ∃ j : Fin 29, signsL.getD j 0 = c) := u8_all (by decide +kernel)
  rcases this b with h1 | ⟨j, h1⟩
  · exact h1
  · exact absurd h1 (h j j.2)

theorem rletters_any (w : World) : Calls Tryz.prog 114 #[] w fun e w' => e = .returned (.string ⟨#[43, 97, 98, 99, 100, 101, 102, 103, 104, 105, 106, 107, 108, 109, 110, 111, 112, 113, 114, 115, 116, 117, 118, 119, 120, 121, 122, 42, 35]⟩) ∧ w = w' := by
  go_enter Tryz.func114, Tryz.ntmps114
  go_wp2
  go_ret
  exact ⟨rfl, rfl⟩

theorem rvalue_any (b : UInt8) (w : World) :
    Calls Tryz.prog 113 #[.int .u8 b.toNat] w fun e w' => e = .returned (.int .i64 (valI b)) ∧ w = w' := by
  go_enter Tryz.func113, Tryz.ntmps113
  go_wp2
  go_loop [3] (fun i => ∃ k : Nat, k ≤ 29 ∧ i = .int .i64 k ∧ Hid (∀ j, j < k → signsL.getD j 0 ≠ b)) (fun i => 29 - (intOf i).toNat)
  case atStart => exact ⟨0, by omega, rfl, Lib.hid (fun j hj => by omega)⟩
  case round =>
    obtain ⟨k, hk, rfl, hno⟩ := hrel
    by_cases hlt : k < 29
    · have hsi := fun w => signs_at k hlt w
      obtain ⟨c, ec⟩ : ∃ c, signsL.getD k 0 = c := ⟨_, rfl⟩
      rw [ec] at hsi
      have hk' : (k : Int) < 29 := by omega
      by_cases hc : c = b
      · have hq : ((c.toNat : Int) == (b.toNat : Int)) = true := by rw [hc]; simp
        have HV := Lib.hid (valI_at b k hlt (ec.trans hc))
        clear ec hc
        go_wp2_with (go_at_call 114; refine (rletters_any _).mono ?_; rintro e w' ⟨rfl, rfl⟩)
        go_ret
        exact ⟨ret_int HV.out.symm, rfl⟩
      · have hq : ((c.toNat : Int) == (b.toNat : Int)) = false := by
          rw [beq_eq_false_iff_ne]; intro h; exact hc (UInt8.toNat_inj.1 (by omega))
        have HN : Hid (∀ j, j < k + 1 → signsL.getD j 0 ≠ b) := Lib.hid (fun j hj => by
          by_cases e : j = k
          · rw [e, ec]; exact hc
          · exact hno.out j (by omega))
        clear ec hc
        go_wp2_with (go_at_call 114; refine (rletters_any _).mono ?_; rintro e w' ⟨rfl, rfl⟩)
        go_round
        case rel => exact ⟨k + 1, by omega, by go_num, HN⟩
        case measure => simp [intOf]; omega
    · obtain rfl : k = 29 := by omega
      have HV := Lib.hid (valI_none b hno.out)
      go_wp2
      go_ret
      exact ⟨ret_int HV.out.symm, rfl⟩

theorem rsmall_any (c : UInt8) (w : World) :
    Calls Tryz.prog 116 #[.int .u8 c.toNat] w fun e w' => e = .returned (.bool (letB c)) ∧ w = w' := by
  by_cases h1 : 97 ≤ (c.toNat : Int)
  · go_enter Tryz.func116, Tryz.ntmps116
    go_wp2
    go_ret
    exact ⟨ret_bool (by simp [letB, h1]), rfl⟩
  · have h2 : decide (97 ≤ (c.toNat : Int)) = false := decide_eq_false h1
    go_enter Tryz.func116, Tryz.ntmps116
    go_wp2
    go_ret
    exact ⟨ret_bool (by simp [letB, h2]), rfl⟩

def allB (l : List UInt8) : Bool := l.all letB
theorem rall_any (s : ByteArray) (w : World) (hs : s.size ≤ maxLen) :
    Calls Tryz.prog 83 #[.string s] w fun e w' => e = .returned (.bool (allB s.data.toList)) ∧ w = w' := by
  unfold maxLen at hs
  go_enter Tryz.func83, Tryz.ntmps83
  go_wp2
  go_loop [3] (fun i => ∃ k : Nat, k ≤ s.size ∧ i = .int .i64 k ∧ Hid ((s.data.toList.take k).all letB = true)) (fun i => s.size - (intOf i).toNat)
  case atStart => exact ⟨0, Nat.zero_le _, rfl, Lib.hid rfl⟩
  case round =>
    obtain ⟨k, hk, rfl, hall⟩ := hrel
    by_cases hlt : k < s.size
    · by_cases hb : letB s[k] = true
      · have HY := Lib.hid (all_take letB s k hlt hall.out hb)
        have HB := Lib.hid hb
        clear hb
        go_wp2_with fail
        refine (rsmall_any _ _).mono ?_
        rintro e w' ⟨rfl, rfl⟩
        rw [HB.out]
        go_wp2_with fail
        go_round
        case rel => exact ⟨k + 1, by omega, by go_num, HY⟩
        case measure => simp [intOf]; omega
      · have hb' : letB s[k] = false := by simpa using hb
        have HY : Hid (allB s.data.toList = false) := Lib.hid (all_no letB s k hlt hb')
        have HB := Lib.hid hb'
        clear hb hb'
        go_wp2_with fail
        refine (rsmall_any _ _).mono ?_
        rintro e w' ⟨rfl, rfl⟩
        rw [HB.out]
        go_wp2_with fail
        go_ret
        exact ⟨ret_bool HY.out.symm, rfl⟩
    · have HY := Lib.hid (hall.out)
      go_wp2
      go_ret
      exact ⟨ret_bool (by rw [take_all hlt] at HY; exact (show allB s.data.toList = true from HY.out).symm), rfl⟩

theorem rword_any (s : ByteArray) (w : World) (hs : s.size ≤ maxLen) :
    Calls Tryz.prog 49 #[.string s] w fun e w' => e = .returned (.bool (wordB s.data.toList)) ∧ w = w' := by
  have hs' := hs
  unfold maxLen at hs'
  have hl := size_toList s
  by_cases h1 : 1 ≤ s.size
  · by_cases h2 : s.size ≤ 10
    · have HW : Hid (wordB s.data.toList = allB s.data.toList) := Lib.hid (by unfold wordB allB; rw [hl]; simp [h1, h2])
      have h1' : (1 : Int) ≤ s.size := by omega
      have h2' : (s.size : Int) ≤ 10 := by omega
      clear hl
      go_enter Tryz.func49, Tryz.ntmps49
      go_wp2_with (go_at_call 83; refine (rall_any _ _ hs).mono ?_; rintro e w' ⟨rfl, rfl⟩)
      go_ret
      exact ⟨ret_bool HW.out.symm, rfl⟩
    · have HW : Hid (wordB s.data.toList = false) := Lib.hid (by unfold wordB; rw [hl]; simp [h2])
      have h2' : decide ((s.size : Int) ≤ 10) = false := decide_eq_false (by omega)
      have h1' : (1 : Int) ≤ s.size := by omega
      clear hl
      go_enter Tryz.func49, Tryz.ntmps49
      go_wp2_with fail
      go_ret
      exact ⟨ret_bool HW.out.symm, rfl⟩
  · have HW : Hid (wordB s.data.toList = false) := Lib.hid (by unfold wordB; rw [hl]; simp [h1])
    have h1' : decide ((1 : Int) ≤ s.size) = false := decide_eq_false (by omega)
    clear hl
    go_enter Tryz.func49, Tryz.ntmps49
    go_wp2_with fail
    go_ret
    exact ⟨ret_bool HW.out.symm, rfl⟩
end Go.Proofs.YtjbdmlpadoiicaaGreatDoor

/-! A letter cut out of all letters. -/
namespace Go.Proofs.YtjbdmlpadoiicaaGreatDoor
open Go.RowKit Go.Shelf

theorem cut_run2 (v y : Int) (w : World) (h0 : 0 ≤ v) (h1 : v < 29) (hy : y = v + 1) : (Instr.slice 9 (.string ⟨#[43, 97, 98, 99, 100, 101, 102, 103, 104, 105, 106, 107, 108, 109, 110, 111, 112, 113, 114, 115, 116, 117, 118, 119, 120, 121, 122, 42, 35]⟩) (some (.int .i64 v)) (some (.int .i64 y)) none).run Tryz.prog w = .ok (.string (B (signL v))) w := by
  have := cut_run v h0 w
  rw [Int.emod_eq_of_lt h0 h1, ← hy] at this
  exact this
end Go.Proofs.YtjbdmlpadoiicaaGreatDoor

/-! Contracts of both Codes, and of the reference's codes and Letter. -/
namespace Go.Proofs.YtjbdmlpadoiicaaGreatDoor
open Go.RowKit Go.Shelf

def codesA : Array Value := #[.string ⟨#[46, 45, 46, 45, 46]⟩, .string ⟨#[46, 45]⟩, .string ⟨#[45, 46, 46, 46]⟩, .string ⟨#[45, 46, 45, 46]⟩, .string ⟨#[45, 46, 46]⟩, .string ⟨#[46]⟩, .string ⟨#[46, 46, 45, 46]⟩, .string ⟨#[45, 45, 46]⟩, .string ⟨#[46, 46, 46, 46]⟩, .string ⟨#[46, 46]⟩, .string ⟨#[46, 45, 45, 45]⟩, .string ⟨#[45, 46, 45]⟩, .string ⟨#[46, 45, 46, 46]⟩, .string ⟨#[45, 45]⟩, .string ⟨#[45, 46]⟩, .string ⟨#[45, 45, 45]⟩, .string ⟨#[46, 45, 45, 46]⟩, .string ⟨#[45, 45, 46, 45]⟩, .string ⟨#[46, 45, 46]⟩, .string ⟨#[46, 46, 46]⟩, .string ⟨#[45]⟩, .string ⟨#[46, 46, 45]⟩, .string ⟨#[46, 46, 46, 45]⟩, .string ⟨#[46, 45, 45]⟩, .string ⟨#[45, 46, 46, 45]⟩, .string ⟨#[45, 46, 45, 45]⟩, .string ⟨#[45, 45, 46, 46]⟩, .string ⟨#[45, 45, 45, 46]⟩, .string ⟨#[45, 45, 45, 45]⟩]

theorem codesA_map : codesA = (codesL.map (fun l => Value.string (B l))).toArray := rfl
theorem codesA_at (k : Nat) (hk : k < 29) : codesA[k]? = some (.string (B (codeL k))) := by
  have hl : codesL.length = 29 := rfl
  rw [codesA_map]
  simp [codeL, List.getElem?_eq_getElem (show k < codesL.length by omega)]
abbrev emptyA : Array Value := #[.string ⟨#[]⟩, .string ⟨#[]⟩, .string ⟨#[]⟩, .string ⟨#[]⟩, .string ⟨#[]⟩, .string ⟨#[]⟩, .string ⟨#[]⟩, .string ⟨#[]⟩, .string ⟨#[]⟩, .string ⟨#[]⟩, .string ⟨#[]⟩, .string ⟨#[]⟩, .string ⟨#[]⟩, .string ⟨#[]⟩, .string ⟨#[]⟩, .string ⟨#[]⟩, .string ⟨#[]⟩, .string ⟨#[]⟩, .string ⟨#[]⟩, .string ⟨#[]⟩, .string ⟨#[]⟩, .string ⟨#[]⟩, .string ⟨#[]⟩, .string ⟨#[]⟩, .string ⟨#[]⟩, .string ⟨#[]⟩, .string ⟨#[]⟩, .string ⟨#[]⟩, .string ⟨#[]⟩]
theorem codes_info : (Tryz.prog.info? 152).map (·.size) = some codesA.size := by kernel_rfl
theorem codes_zero : emptyA.size = codesA.size := by kernel_rfl
theorem codes_one : codesA.all (·.oneCell') = true := by kernel_rfl

theorem rcodes_any (w : World) : Calls Tryz.prog 115 #[] w fun e w' => e = .returned (.agg codesA) ∧ Below w.heap.size w w' := by
  have h0 := heap_alloc_new w (.cells emptyA 152)
  have H0 := Lib.hid h0
  clear h0
  go_enter Tryz.func115, Tryz.ntmps115
  go_wp2_with ((with_reducible refine wpList_store_row rfl 152 _ _ rfl w.heap.size codesA ?_ ?_ 152 emptyA H0.out codes_info codes_zero codes_one ?_); exact rfl; exact rfl)
  refine bodyPost_ret (v := .agg codesA) (results_cell_row rfl _ _ w.heap.size 152 codesA (0, 0) _ rfl (setRow_heap _ _ _ _ _ _ H0.out) Tryz.underlying152 rfl codes_info) rfl ⟨rfl, below_setRow ((Below.refl _ w).alloc (Nat.le_refl _) _) (Nat.le_refl _) _⟩

def codeV (b : UInt8) : Value := if valI b < 0 then .tuple #[.string ⟨#[]⟩, .bool false] else .tuple #[.string (B (codeL (valI b).toNat)), .bool true]
theorem codeV_no {b : UInt8} (h : valI b < 0) : codeV b = .tuple #[.string ⟨#[]⟩, .bool false] := by unfold codeV; rw [if_pos h]
theorem codeV_ok {b : UInt8} {k : Nat} (h : valI b = k) : codeV b = .tuple #[.string (B (codeL k)), .bool true] := by unfold codeV; rw [if_neg (by omega), h]; rfl
end Go.Proofs.YtjbdmlpadoiicaaGreatDoor

/-! Contracts of the reference's Code, Letter and Checks. -/
namespace Go.Proofs.YtjbdmlpadoiicaaGreatDoor
open Go.RowKit Go.Shelf

theorem codes_run : ∀ (k : Fin 29) (w : World), (Instr.index 152 (.agg codesA) (.int .i64 (k : Nat))).run Tryz.prog w = .ok (codesA.getD k undef) w := by
  intro k w
  have : ∀ k : Nat, k < 29 → (Instr.index 152 (.agg codesA) (.int .i64 k)).run Tryz.prog w = .ok (codesA.getD k undef) w
    | 0, _ => by kernel_rfl
    | 1, _ => by kernel_rfl
    | 2, _ => by kernel_rfl
    | 3, _ => by kernel_rfl
    | 4, _ => by kernel_rfl
    | 5, _ => by kernel_rfl
    | 6, _ => by kernel_rfl
    | 7, _ => by kernel_rfl
    | 8, _ => by kernel_rfl
    | 9, _ => by kernel_rfl
    | 10, _ => by kernel_rfl
    | 11, _ => by kernel_rfl
    | 12, _ => by kernel_rfl
    | 13, _ => by kernel_rfl
    | 14, _ => by kernel_rfl
    | 15, _ => by kernel_rfl
    | 16, _ => by kernel_rfl
    | 17, _ => by kernel_rfl
    | 18, _ => by kernel_rfl
    | 19, _ => by kernel_rfl
    | 20, _ => by kernel_rfl
    | 21, _ => by kernel_rfl
    | 22, _ => by kernel_rfl
    | 23, _ => by kernel_rfl
    | 24, _ => by kernel_rfl
    | 25, _ => by kernel_rfl
    | 26, _ => by kernel_rfl
    | 27, _ => by kernel_rfl
    | 28, _ => by kernel_rfl
    | n + 29, h => absurd h (by omega)
  exact this k k.2
theorem codes_at (k : Nat) (hk : k < 29) (w : World) : (Instr.index 152 (.agg codesA) (.int .i64 k)).run Tryz.prog w = .ok (.string (B (codeL k))) w := by
  have := codes_run ⟨k, hk⟩ w
  rw [this]
  have h2 := codesA_at k hk
  simp [Array.getD_eq_getD_getElem?, h2]

theorem rcode_any (b : UInt8) (w : World) :
    Calls Tryz.prog 82 #[.int .u8 b.toNat] w fun e w' => e = .returned (codeV b) ∧ Below w.heap.size w w' := by
  have hv := valI_bd b
  by_cases h : valI b < 0
  · have HV := Lib.hid (codeV_no h)
    go_enter Tryz.func82, Tryz.ntmps82
    go_wp2_with (go_at_call 113; refine (rvalue_any _ _).mono ?_; rintro e w' ⟨rfl, rfl⟩)
    go_ret2
    exact ⟨ret_val HV.out.symm, Below.refl _ _⟩
  · obtain ⟨k, hk⟩ : ∃ k : Nat, valI b = k := ⟨(valI b).toNat, by omega⟩
    have HV := Lib.hid (codeV_ok hk)
    have HK := Lib.hid hk
    have hk29 : k < 29 := by omega
    have hix := fun w => codes_at k hk29 w
    have hk29i : (k : Int) < 29 := by omega
    clear hk h hv
    go_enter Tryz.func82, Tryz.ntmps82
    go_wp2_with fail
    refine (rvalue_any _ _).mono ?_
    rintro e w' ⟨rfl, rfl⟩
    rw [HK.out]
    go_wp2_with fail
    refine (rcodes_any _).mono ?_
    rintro e w1 ⟨rfl, hb⟩
    obtain ⟨cA, eA⟩ : ∃ cA, codesA = cA := ⟨_, rfl⟩
    rw [eA] at hix ⊢
    have HB := Lib.hid hb
    clear eA hb
    go_wp2_with fail
    go_ret2
    exact ⟨ret_val HV.out.symm, HB.out⟩

set_option maxRecDepth 100000 in
theorem rletter_any (code : ByteArray) (w : World) :
    Calls Tryz.prog 112 #[.string code] w fun e w' => e = .returned (letterV code.data.toList) ∧ Below w.heap.size w w' := by
  obtain ⟨cl, hcl⟩ : ∃ cl, code.data.toList = cl := ⟨_, rfl⟩
  obtain rfl : code = B cl := by rw [← hcl, B_L]
  clear hcl
  rw [L_B]
  obtain ⟨cA, eA⟩ : ∃ cA, codesA = cA := ⟨_, rfl⟩
  have hcA := codes_at
  have hrc := rcodes_any
  rw [eA] at hcA hrc
  have HCA := Lib.hid hcA; have HRC := Lib.hid hrc
  clear eA hcA hrc
  go_enter Tryz.func112, Tryz.ntmps112
  go_wp2
  go_loopw [4] (fun i wr => ∃ k : Nat, k ≤ 29 ∧ i = .int .i64 k ∧ Hid (∀ j, j < k → codeL j ≠ cl) ∧ Hid (Below w.heap.size w wr)) (fun i _ => 29 - (intOf i).toNat)
  case atStart => exact ⟨0, Nat.zero_le _, rfl, Lib.hid (fun j h => by omega), Lib.hid (Below.refl _ _)⟩
  case round =>
    obtain ⟨k, hk, rfl, hno, hB⟩ := hrel
    by_cases hlt : k < 29
    · have hix := fun w => HCA.out k hlt w
      have hsa := signs_at k hlt
      have hlti : (k : Int) < 29 := by omega
      by_cases he : codeL k = cl
      · have HN := Lib.hid (letN_at cl k hlt hno.out he)
        subst he
        go_wp2_with fail
        refine (HRC.out _).mono ?_
        rintro e w1 ⟨rfl, hb⟩
        have HB := Lib.hid (hB.out.trans (hb.mono hB.out.size))
        clear hb
        go_wp2_with (go_at_call 114; refine (rletters_any _).mono ?_; rintro e w' ⟨rfl, rfl⟩)
        go_ret2
        exact ⟨ret_val (by simp only [letterV, HN.out, hlt, if_true]; rfl), HB.out⟩
      · have hq : (codeL k == cl) = false := by simpa using he
        have HE := Lib.hid he
        clear he
        go_wp2_with fail
        refine (HRC.out _).mono ?_
        rintro e w1 ⟨rfl, hb⟩
        have HB := Lib.hid (hB.out.trans (hb.mono hB.out.size))
        clear hb
        go_wp2_with fail
        go_roundw
        case rel => exact ⟨k + 1, by omega, by go_num, Lib.hid (fun j hj => by
          by_cases e : j = k
          · subst e; exact HE.out
          · exact hno.out j (by omega)), HB⟩
        case measure => simp [intOf]; omega
    · obtain rfl : k = 29 := by omega
      have HN := Lib.hid (letN_no cl hno.out)
      go_wp2
      go_ret2
      exact ⟨ret_val (by simp only [letterV]; rw [if_neg HN.out]; rfl), hB.out⟩
end Go.Proofs.YtjbdmlpadoiicaaGreatDoor

/-! The reference's Checks. -/
namespace Go.Proofs.YtjbdmlpadoiicaaGreatDoor
open Go.RowKit Go.Shelf

def checksA (s : List UInt8) : Value := if wordB s then .agg #[.string (B (aheadL s)), .string (B (behindL s)), .int .i64 0] else .agg #[.string ⟨#[]⟩, .string ⟨#[]⟩, .int .i64 7]
theorem checksA_ok {s : List UInt8} (h : wordB s = true) : checksA s = .agg #[.string (B (aheadL s)), .string (B (behindL s)), .int .i64 0] := by unfold checksA; rw [if_pos h]
theorem checksA_no {s : List UInt8} (h : wordB s = false) : checksA s = .agg #[.string ⟨#[]⟩, .string ⟨#[]⟩, .int .i64 7] := by unfold checksA; rw [if_neg (by rw [h]; decide)]

set_option maxRecDepth 100000 in
set_option maxHeartbeats 1000000 in
theorem rchecks_any (s : ByteArray) (w : World) (hs : s.size ≤ maxLen) :
    Calls Tryz.prog 81 #[.string s] w fun e w' => e = .returned (checksA s.data.toList) ∧ Below w.heap.size w w' := by
  have hs' := hs
  unfold maxLen at hs'
  cases hw : wordB s.data.toList
  · have Hw := Lib.hid hw
    have HV := Lib.hid (checksA_no hw)
    clear hw
    go_enter Tryz.func81, Tryz.ntmps81
    go_wp2_with fail
    refine (rword_any _ _ hs).mono ?_
    rintro e w' ⟨rfl, rfl⟩
    rw [Hw.out]
    go_wp2
    refine bodyPost_ret (v := checksA s.data.toList) ?_ rfl ⟨rfl, (Below.refl _ _).alloc (Nat.le_refl _) _⟩
    rw [HV.out]
    simp [results, Tryz.results81, go_sem]
  · obtain ⟨h1, h2, h3⟩ := word_parts hw
    have Hw := Lib.hid hw
    have H3 := Lib.hid h3
    have HV := Lib.hid (checksA_ok hw)
    have h1' : 1 ≤ s.size := h1
    have h2' : s.size ≤ 10 := h2
    clear hw h3 h1 h2
    go_enter Tryz.func81, Tryz.ntmps81
    go_wp2_with fail
    refine (rword_any _ _ hs).mono ?_
    rintro e w' ⟨rfl, rfl⟩
    rw [Hw.out]
    go_wp2
    go_loop [3, 4, 5] (fun p q i => ∃ k : Nat, k ≤ s.size ∧ i = .int .i64 k ∧ p = .int .i64 (plainK s.data.toList k) ∧ q = .int .i64 (weighK s.data.toList k)) (fun _ _ i => s.size - (intOf i).toNat)
    case atStart => exact ⟨0, Nat.zero_le _, rfl, rfl, rfl⟩
    case round =>
      obtain ⟨k, hk, rfl, rfl, rfl⟩ := hrel
      have hp := plainK_bd H3.out k hk h2'
      have hq := weighK_bd H3.out k hk h2'
      by_cases hlt : k < s.size
      · have hv := valI_let_bd _ (getD_all H3.out (i := k) hlt)
        have hv' : s.data.toList.getD k 0 = s[k] := (bat_eq s k hlt).symm
        rw [hv'] at hv
        have Hv := Lib.hid hv'
        clear hv'
        have hm := mul_bd (a := (k : Int) + 1) (v := valI s[k]) (by omega) (by omega) hv.1 hv.2
        go_wp2_with (go_at_call 113; refine (rvalue_any _ _).mono ?_; rintro e w' ⟨rfl, rfl⟩)
        go_round
        case rel => exact ⟨k + 1, by omega, by go_num, by rw [plainK_succ, Hv.out], by rw [weighK_succ, Hv.out]⟩
        case measure => simp [intOf]; omega
      · obtain rfl : k = s.size := by omega
        obtain ⟨P, eP⟩ : ∃ P, plainK s.data.toList s.size = P := ⟨_, rfl⟩
        obtain ⟨Q, eQ⟩ : ∃ Q, weighK s.data.toList s.size = Q := ⟨_, rfl⟩
        have HR : Hid (aheadL s.data.toList = signL s.size ∧ behindL s.data.toList = signL P ++ signL Q) := Lib.hid ⟨by unfold aheadL; rw [size_toList], by unfold behindL; rw [size_toList, eP, eQ]⟩
        rw [eP] at hp ⊢
        rw [eQ] at hq ⊢
        have s0 := fun w => cut_run2 s.size (s.size + 1) w (by omega) (by omega) rfl
        have s1 := fun w => cut_run P hp.1 w
        have s2 := fun w => cut_run Q hq.1 w
        have T1 : Hid (P.tmod 29 = P % 29) := Lib.hid (Int.tmod_eq_emod_of_nonneg hp.1)
        have T2 : Hid (Q.tmod 29 = Q % 29) := Lib.hid (Int.tmod_eq_emod_of_nonneg hq.1)
        have W0 : Hid (IntKind.i64.wrap ((s.size : Int) + 1) = (s.size : Int) + 1) := Lib.hid (IntWalk.i64_in _ (by omega))
        have W1 : Hid (IntKind.i64.wrap (P % 29 + 1) = P % 29 + 1) := Lib.hid (IntWalk.i64_in _ (by omega))
        have W2 : Hid (IntKind.i64.wrap (Q % 29 + 1) = Q % 29 + 1) := Lib.hid (IntWalk.i64_in _ (by omega))
        clear eP eQ
        go_wp2_with (go_at_call 114; refine (rletters_any _).mono ?_; rintro e w' ⟨rfl, rfl⟩)
        have t1 := T1.out; have t2 := T2.out; have w0 := W0.out; have w1 := W1.out; have w2 := W2.out
        refine wp_still_tail1 23 (by kernel_rfl) (by kernel_rfl) ?_
        simp only [List.take_succ_cons, List.take_zero, List.drop_succ_cons, List.drop_zero]
        iterate 23 still_step
        refine wpStill_nil ?_
        clear t1 t2 w0 w1 w2
        go_wp2_with fail
        refine bodyPost_ret (v := checksA s.data.toList) ?_ rfl ⟨rfl, below_drewN ((Below.refl _ _).alloc (Nat.le_refl _) _) 1⟩
        rw [HV.out, HR.out.1, HR.out.2, ← B_app]
        simp [results, Tryz.results81, go_sem]
end Go.Proofs.YtjbdmlpadoiicaaGreatDoor
