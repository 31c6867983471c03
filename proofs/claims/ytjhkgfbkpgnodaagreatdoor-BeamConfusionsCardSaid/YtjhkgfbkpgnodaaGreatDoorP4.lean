/- Contracts of the reference's Code, Letter and Checks. -/
import Derived.Test.YtjhkgfbkpgnodaaGreatDoorP3
import Derived.Test.YtjhkgfbkpgnodaaGreatDoorT0
import Derived.Test.YtjhkgfbkpgnodaaGreatDoorP1a
namespace Go.Proofs.YtjhkgfbkpgnodaaGreatDoor
open Go.RowKit Go.Shelf

theorem codes_run : ∀ (k : Fin 29) (w : World), (Instr.index 152 (.agg codesA) (.int .i64 (k : Nat))).run Tryz.prog w = .ok (codesA.getD k undef) w := by
  intro k w
  have : ∀ k : Nat, k < 29 → (Instr.index 152 (.agg codesA) (.int .i64 k)).run Tryz.prog w = .ok (codesA.getD k undef) w
    | 0, _ => by kernel_rfl
    | 1, _ => by kernel_rfl
    | 2, _ => by kernel_rfl
    | 3, _ => by kernel_rfl
    | 4, _ => by kernel_rfl
    | 5, _ => by kernel_rfl
    | 6, _ => by kernel_rfl
    | 7, _ => by kernel_rfl
    | 8, _ => by kernel_rfl
    | 9, _ => by kernel_rfl
    | 10, _ => by kernel_rfl
    | 11, _ => by kernel_rfl
    | 12, _ => by kernel_rfl
    | 13, _ => by kernel_rfl
    | 14, _ => by kernel_rfl
    | 15, _ => by kernel_rfl
    | 16, _ => by kernel_rfl
    | 17, _ => by kernel_rfl
    | 18, _ => by kernel_rfl
    | 19, _ => by kernel_rfl
    | 20, _ => by kernel_rfl
    | 21, _ => by kernel_rfl
    | 22, _ => by kernel_rfl
    | 23, _ => by kernel_rfl
    | 24, _ => by kernel_rfl
    | 25, _ => by kernel_rfl
    | 26, _ => by kernel_rfl
    | 27, _ => by kernel_rfl
    | 28, _ => by kernel_rfl
    | n + 29, h => absurd h (by omega)
  exact this k k.2
theorem codes_at (k : Nat) (hk : k < 29) (w : World) : (Instr.index 152 (.agg codesA) (.int .i64 k)).run Tryz.prog w = .ok (.string (B (codeL k))) w := by
  have := codes_run ⟨k, hk⟩ w
  rw [this]
  have h2 := codesA_at k hk
  simp [Array.getD_eq_getD_getElem?, h2]

theorem rcode_any (b : UInt8) (w : World) :
    Calls Tryz.prog 82 #[.int .u8 b.toNat] w fun e w' => e = .returned (codeV b) ∧ Below w.heap.size w w' := by
  have hv := valI_bd b
  by_cases h : valI b < 0
  · have HV := Lib.hid (codeV_no h)
    go_enter Tryz.func82, Tryz.ntmps82
    go_wp2_with (go_at_call 113; refine (rvalue_any _ _).mono ?_; rintro e w' ⟨rfl, rfl⟩)
    go_ret2
    exact ⟨ret_val HV.out.symm, Below.refl _ _⟩
  · obtain ⟨k, hk⟩ : ∃ k : Nat, valI b = k := ⟨(valI b).toNat, by omega⟩
    have HV := Lib.hid (codeV_ok hk)
    have HK := Lib.hid hk
    have hk29 : k < 29 := by omega
    have hix := fun w => codes_at k hk29 w
    have hk29i : (k : Int) < 29 := by omega
    clear hk h hv
    go_enter Tryz.func82, Tryz.ntmps82
    go_wp2_with fail
    refine (rvalue_any _ _).mono ?_
    rintro e w' ⟨rfl, rfl⟩
    rw [HK.out]
    go_wp2_with fail
    refine (rcodes_any _).mono ?_
    rintro e w1 ⟨rfl, hb⟩
    obtain ⟨cA, eA⟩ : ∃ cA, codesA = cA := ⟨_, rfl⟩
    rw [eA] at hix ⊢
    have HB := Lib.hid hb
    clear eA hb
    go_wp2_with fail
    go_ret2
    exact ⟨ret_val HV.out.symm, HB.out⟩

set_option maxRecDepth 100000 in
theorem rletter_any (code : ByteArray) (w : World) :
    Calls Tryz.prog 112 #[.string code] w fun e w' => e = .returned (letterV code.data.toList) ∧ Below w.heap.size w w' := by
  obtain ⟨cl, hcl⟩ : ∃ cl, code.data.toList = cl := ⟨_, rfl⟩
  obtain rfl : code = B cl := by rw [← hcl, B_L]
  clear hcl
  rw [L_B]
  obtain ⟨cA, eA⟩ : ∃ cA, codesA = cA := ⟨_, rfl⟩
  have hcA := codes_at
  have hrc := rcodes_any
  rw [eA] at hcA hrc
  have HCA := Lib.hid hcA; have HRC := Lib.hid hrc
  clear eA hcA hrc
  go_enter Tryz.func112, Tryz.ntmps112
  go_wp2
  go_loopw [4] (fun i wr => ∃ k : Nat, k ≤ 29 ∧ i = .int .i64 k ∧ Hid (∀ j, j < k → codeL j ≠ cl) ∧ Hid (Below w.heap.size w wr)) (fun i _ => 29 - (intOf i).toNat)
  case atStart => exact ⟨0, Nat.zero_le _, rfl, Lib.hid (fun j h => by omega), Lib.hid (Below.refl _ _)⟩
  case round =>
    obtain ⟨k, hk, rfl, hno, hB⟩ := hrel
    by_cases hlt : k < 29
    · have hix := fun w => HCA.out k hlt w
      have hsa := signs_at k hlt
      have hlti : (k : Int) < 29 := by omega
      by_cases he : codeL k = cl
      · have HN := Lib.hid (letN_at cl k hlt hno.out he)
        subst he
        go_wp2_with fail
        refine (HRC.out _).mono ?_
        rintro e w1 ⟨rfl, hb⟩
        have HB := Lib.hid (hB.out.trans (hb.mono hB.out.size))
        clear hb
        go_wp2_with (go_at_call 114; refine (rletters_any _).mono ?_; rintro e w' ⟨rfl, rfl⟩)
        go_ret2
        exact ⟨ret_val (by simp only [letterV, HN.out, hlt, if_true]; rfl), HB.out⟩
      · have hq : (codeL k == cl) = false := by simpa using he
        have HE := Lib.hid he
        clear he
        go_wp2_with fail
        refine (HRC.out _).mono ?_
        rintro e w1 ⟨rfl, hb⟩
        have HB := Lib.hid (hB.out.trans (hb.mono hB.out.size))
        clear hb
        go_wp2_with fail
        go_roundw
        case rel => exact ⟨k + 1, by omega, by go_num, Lib.hid (fun j hj => by
          by_cases e : j = k
          · subst e; exact HE.out
          · exact hno.out j (by omega)), HB⟩
        case measure => simp [intOf]; omega
    · obtain rfl : k = 29 := by omega
      have HN := Lib.hid (letN_no cl hno.out)
      go_wp2
      go_ret2
      exact ⟨ret_val (by simp only [letterV]; rw [if_neg HN.out]; rfl), hB.out⟩
end Go.Proofs.YtjhkgfbkpgnodaaGreatDoor
