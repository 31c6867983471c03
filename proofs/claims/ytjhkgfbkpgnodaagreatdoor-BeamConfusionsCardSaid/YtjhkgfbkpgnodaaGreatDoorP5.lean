/- The reference's Checks. -/
import Derived.Test.YtjhkgfbkpgnodaaGreatDoorP4
import Derived.Test.YtjhkgfbkpgnodaaGreatDoorT1
namespace Go.Proofs.YtjhkgfbkpgnodaaGreatDoor
open Go.RowKit Go.Shelf

def checksA (s : List UInt8) : Value := if wordB s then .agg #[.string (B (aheadL s)), .string (B (behindL s)), .int .i64 0] else .agg #[.string ⟨#[]⟩, .string ⟨#[]⟩, .int .i64 7]
theorem checksA_ok {s : List UInt8} (h : wordB s = true) : checksA s = .agg #[.string (B (aheadL s)), .string (B (behindL s)), .int .i64 0] := by unfold checksA; rw [if_pos h]
theorem checksA_no {s : List UInt8} (h : wordB s = false) : checksA s = .agg #[.string ⟨#[]⟩, .string ⟨#[]⟩, .int .i64 7] := by unfold checksA; rw [if_neg (by rw [h]; decide)]

set_option maxRecDepth 100000 in
set_option maxHeartbeats 1000000 in
theorem rchecks_any (s : ByteArray) (w : World) (hs : s.size ≤ maxLen) :
    Calls Tryz.prog 81 #[.string s] w fun e w' => e = .returned (checksA s.data.toList) ∧ Below w.heap.size w w' := by
  have hs' := hs
  unfold maxLen at hs'
  cases hw : wordB s.data.toList
  · have Hw := Lib.hid hw
    have HV := Lib.hid (checksA_no hw)
    clear hw
    go_enter Tryz.func81, Tryz.ntmps81
    go_wp2_with fail
    refine (rword_any _ _ hs).mono ?_
    rintro e w' ⟨rfl, rfl⟩
    rw [Hw.out]
    go_wp2
    refine bodyPost_ret (v := checksA s.data.toList) ?_ rfl ⟨rfl, (Below.refl _ _).alloc (Nat.le_refl _) _⟩
    rw [HV.out]
    simp [results, Tryz.results81, go_sem]
  · obtain ⟨h1, h2, h3⟩ := word_parts hw
    have Hw := Lib.hid hw
    have H3 := Lib.hid h3
    have HV := Lib.hid (checksA_ok hw)
    have h1' : 1 ≤ s.size := h1
    have h2' : s.size ≤ 10 := h2
    clear hw h3 h1 h2
    go_enter Tryz.func81, Tryz.ntmps81
    go_wp2_with fail
    refine (rword_any _ _ hs).mono ?_
    rintro e w' ⟨rfl, rfl⟩
    rw [Hw.out]
    go_wp2
    go_loop [3, 4, 5] (fun p q i => ∃ k : Nat, k ≤ s.size ∧ i = .int .i64 k ∧ p = .int .i64 (plainK s.data.toList k) ∧ q = .int .i64 (weighK s.data.toList k)) (fun _ _ i => s.size - (intOf i).toNat)
    case atStart => exact ⟨0, Nat.zero_le _, rfl, rfl, rfl⟩
    case round =>
      obtain ⟨k, hk, rfl, rfl, rfl⟩ := hrel
      have hp := plainK_bd H3.out k hk h2'
      have hq := weighK_bd H3.out k hk h2'
      by_cases hlt : k < s.size
      · have hv := valI_let_bd _ (getD_all H3.out (i := k) hlt)
        have hv' : s.data.toList.getD k 0 = s[k] := (bat_eq s k hlt).symm
        rw [hv'] at hv
        have Hv := Lib.hid hv'
        clear hv'
        have hm := mul_bd (a := (k : Int) + 1) (v := valI s[k]) (by omega) (by omega) hv.1 hv.2
        go_wp2_with (go_at_call 113; refine (rvalue_any _ _).mono ?_; rintro e w' ⟨rfl, rfl⟩)
        go_round
        case rel => exact ⟨k + 1, by omega, by go_num, by rw [plainK_succ, Hv.out], by rw [weighK_succ, Hv.out]⟩
        case measure => simp [intOf]; omega
      · obtain rfl : k = s.size := by omega
        obtain ⟨P, eP⟩ : ∃ P, plainK s.data.toList s.size = P := ⟨_, rfl⟩
        obtain ⟨Q, eQ⟩ : ∃ Q, weighK s.data.toList s.size = Q := ⟨_, rfl⟩
        have HR : Hid (aheadL s.data.toList = signL s.size ∧ behindL s.data.toList = signL P ++ signL Q) := Lib.hid ⟨by unfold aheadL; rw [size_toList], by unfold behindL; rw [size_toList, eP, eQ]⟩
        rw [eP] at hp ⊢
        rw [eQ] at hq ⊢
        have s0 := fun w => cut_run2 s.size (s.size + 1) w (by omega) (by omega) rfl
        have s1 := fun w => cut_run P hp.1 w
        have s2 := fun w => cut_run Q hq.1 w
        have T1 : Hid (P.tmod 29 = P % 29) := Lib.hid (Int.tmod_eq_emod_of_nonneg hp.1)
        have T2 : Hid (Q.tmod 29 = Q % 29) := Lib.hid (Int.tmod_eq_emod_of_nonneg hq.1)
        have W0 : Hid (IntKind.i64.wrap ((s.size : Int) + 1) = (s.size : Int) + 1) := Lib.hid (IntWalk.i64_in _ (by omega))
        have W1 : Hid (IntKind.i64.wrap (P % 29 + 1) = P % 29 + 1) := Lib.hid (IntWalk.i64_in _ (by omega))
        have W2 : Hid (IntKind.i64.wrap (Q % 29 + 1) = Q % 29 + 1) := Lib.hid (IntWalk.i64_in _ (by omega))
        clear eP eQ
        go_wp2_with (go_at_call 114; refine (rletters_any _).mono ?_; rintro e w' ⟨rfl, rfl⟩)
        have t1 := T1.out; have t2 := T2.out; have w0 := W0.out; have w1 := W1.out; have w2 := W2.out
        refine wp_still_tail1 23 (by kernel_rfl) (by kernel_rfl) ?_
        simp only [List.take_succ_cons, List.take_zero, List.drop_succ_cons, List.drop_zero]
        iterate 23 still_step
        refine wpStill_nil ?_
        clear t1 t2 w0 w1 w2
        go_wp2_with fail
        refine bodyPost_ret (v := checksA s.data.toList) ?_ rfl ⟨rfl, below_drewN ((Below.refl _ _).alloc (Nat.le_refl _) _) 1⟩
        rw [HV.out, HR.out.1, HR.out.2, ← B_app]
        simp [results, Tryz.results81, go_sem]
end Go.Proofs.YtjhkgfbkpgnodaaGreatDoor
