/- Letter, letters and Read of package beam. -/
import Derived.Test.YtgcaldceiogkaaaDoorB3
namespace Go.Proofs.YtgcaldceiogkaaaDoor
open Go.RowKit Go.Shelf
attribute [local go_sem] Oper.semAt_some

theorem splitSeq_any (s : ByteArray) (w : World) :
    Calls Tryd.prog 75 #[.string s, .string ⟨#[47]⟩] w fun e w' => e = .returned (.func (.func 95) #[] #[.pointer (some ⟨w.heap.size + 1, 0, none⟩), .pointer (some ⟨w.heap.size, 0, none⟩), .pointer (some ⟨w.heap.size + 2, 0, none⟩)]) ∧
      (((w.alloc (.cells #[.string s] 9)).alloc (.cells #[.string ⟨#[47]⟩] 9)).alloc (.cells #[.int .i64 0] 3)) = w' := by
  have hmf : ∀ (fn : Fn) (first cap : Array Value) (w : World), (Instr.makeFunc fn first cap).run Tryd.prog w = .ok (.func fn first cap) w := fun _ _ _ _ => rfl
  go_enter Tryd.func75, Tryd.ntmps75
  go_wp2
  go_ret
  exact ⟨rfl, rfl⟩

def letN (code : List UInt8) : Nat := codesL.findIdx (· == code)
def letterV (code : List UInt8) : Value := if letN code < 29 then .tuple #[.int .u8 (signsL.getD (letN code) 0).toNat, .bool true] else .tuple #[.int .u8 0, .bool false]

theorem letN_at (code : List UInt8) (k : Nat) (hk : k < 29) (h : ∀ j, j < k → codeL j ≠ code) (e : codeL k = code) : letN code = k := by
  unfold letN
  have hl : codesL.length = 29 := rfl
  rw [List.findIdx_eq (by omega)]
  refine ⟨?_, fun j hj => ?_⟩
  · simpa [codeL, List.getElem?_eq_getElem (show k < codesL.length by omega)] using e
  · have := h j hj
    simpa [codeL, List.getElem?_eq_getElem (show j < codesL.length by omega)] using this
theorem letN_no (code : List UInt8) (h : ∀ j, j < 29 → codeL j ≠ code) : ¬ letN code < 29 := by
  intro hlt
  have hl : codesL.length = 29 := rfl
  have := List.findIdx_getElem (xs := codesL) (p := (· == code)) (w := by rw [hl]; exact hlt)
  refine h (letN code) hlt ?_
  unfold letN at hlt ⊢
  simpa [codeL, List.getElem?_eq_getElem (show List.findIdx (· == code) codesL < codesL.length by omega)] using this

theorem signs_at (k : Nat) (h : k < 29) (w : World) : (Instr.index 9 (.string ⟨#[43, 97, 98, 99, 100, 101, 102, 103, 104, 105, 106, 107, 108, 109, 110, 111, 112, 113, 114, 115, 116, 117, 118, 119, 120, 121, 122, 42, 35]⟩) (.int .i64 k)).run Tryd.prog w = .ok (.int .u8 (signsL.getD k 0).toNat) w := by
  have e : (⟨#[43, 97, 98, 99, 100, 101, 102, 103, 104, 105, 106, 107, 108, 109, 110, 111, 112, 113, 114, 115, 116, 117, 118, 119, 120, 121, 122, 42, 35]⟩ : ByteArray) = B signsL := rfl
  rw [e]
  have hk : k < (B signsL).size := by simpa [signsL] using h
  have := bat_eq (B signsL) k hk
  rw [bat_B] at this
  rw [← this, run_index_string _ _ _ _ _ Tryd.underlying9, dif_pos ⟨by omega, by rw [size_B]; exact Int.ofNat_lt.2 (by simpa [signsL] using h)⟩]
  simp

set_option maxRecDepth 100000 in
theorem letter_any (code : ByteArray) (w : World) (hC : Codes w) :
    Calls Tryd.prog 76 #[.string code] w fun e w' => e = .returned (letterV code.data.toList) ∧ w = w' := by
  have HC := Lib.hid hC
  clear hC
  obtain ⟨cl, hcl⟩ : ∃ cl, code.data.toList = cl := ⟨_, rfl⟩
  obtain rfl : code = B cl := by rw [← hcl, B_L]
  clear hcl
  rw [L_B]
  go_enter Tryd.func76, Tryd.ntmps76
  go_wp2
  go_loop [4, 5] (fun _ i => ∃ k : Nat, k ≤ 29 ∧ i = .int .i64 k ∧ Hid (∀ j, j < k → codeL j ≠ cl)) (fun _ i => 29 - (intOf i).toNat)
  case atStart => exact ⟨0, Nat.zero_le _, rfl, Lib.hid (fun j h => by omega)⟩
  case round =>
    obtain ⟨k, hk, rfl, hno⟩ := hrel
    by_cases hlt : k < 29
    · have hc := HC.out k hlt
      have hsa := signs_at k hlt
      by_cases he : codeL k = cl
      · have HN := Lib.hid (letN_at cl k hlt hno.out he)
        subst he
        go_wp2
        go_ret2
        exact ⟨ret_val (by simp only [letterV, HN.out, hlt, if_true]; rfl), rfl⟩
      · have hq : (codeL k == cl) = false := by simpa using he
        have HE := Lib.hid he
        clear he
        go_wp2
        go_round
        case rel => exact ⟨k + 1, by omega, by go_num, Lib.hid (fun j hj => by
          by_cases e : j = k
          · subst e; exact HE.out
          · exact hno.out j (by omega))⟩
        case measure => simp [intOf]; omega
    · obtain rfl : k = 29 := by omega
      have HN := Lib.hid (letN_no cl hno.out)
      go_wp2
      go_ret2
      exact ⟨ret_val (by simp only [letterV]; rw [if_neg HN.out]; rfl), rfl⟩
end Go.Proofs.YtgcaldceiogkaaaDoor
