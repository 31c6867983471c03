/- greatest of package ridge. -/
import Derived.Test.YtjllkmekchmmbaaHB1
import Derived.Test.YtjllkmekchmmbaaHI2
set_option linter.unusedVariables false
set_option linter.unusedSimpArgs false
namespace Go.Proofs.Ytjllkmekchmmbaa
open Go Go.RowKit

theorem foldl_take {l : List Int} {k : Nat} (a : Int) (h : k < l.length) : (l.take (k + 1)).foldl max a = max ((l.take k).foldl max a) (l.getD k 0) := by
  rw [List.take_add_one, List.foldl_append, List.getD_eq_getElem?_getD]
  simp [List.getElem?_eq_getElem h]
set_option maxRecDepth 100000 in
set_option maxHeartbeats 1000000 in
theorem greatest_any (x : Int) (v : Value) (l : List Int) (w : World) (hv : INRow w v l) (hl : l.length ≤ 100000) :
    Calls Try.prog 70 #[.int .i64 x, v] w fun e w' => e = .returned (.int .i64 (l.foldl max x)) ∧ Below w.heap.size w w' := by
  obtain ⟨a, cap, rfl, hc⟩ := hv.form
  have HC := Lib.hid hc
  clear hc hv
  go_enter Try.func70, Try.ntmps70
  go_wp2_with fail
  go_loopw [0, 9] (fun m i wr => ∃ (k : Nat) (y : Int), k ≤ l.length ∧ m = .int .i64 y ∧ i = .int .i64 k ∧ Hid (y = (l.take k).foldl max x) ∧ Hid (Below w.heap.size w wr)) (fun _ i _ => l.length - (intOf i).toNat)
  case atStart => exact ⟨0, x, Nat.zero_le _, rfl, rfl, Lib.hid rfl, Lib.hid (Below.refl _ _)⟩
  case round =>
    obtain ⟨k, y, hk, rfl, rfl, hT, hB⟩ := hrel
    by_cases hkl : k < l.length
    · obtain ⟨b, off, rfl, hb, c0⟩ := HC.out k hkl
      have hki : (k : Int) < l.length := by omega
      have hk0 : (0 : Int) ≤ k := by omega
      have e0 := (hB.out.cell (p := ⟨b, _, none⟩) hb).trans c0
      have HN : Hid (max y (l.getD k 0) = (l.take (k + 1)).foldl max x) := Lib.hid (by rw [foldl_take _ hkl, hT.out])
      obtain ⟨z, hz⟩ : ∃ z, l.getD k 0 = z := ⟨_, rfl⟩
      rw [hz] at e0 HN
      clear c0 hb hz
      go_wp2_with fail
      go_roundw
      case rel => exact ⟨k + 1, max y z, by omega, rfl, by go_num, HN, hB⟩
      case measure => simp [intOf]; omega
    · obtain rfl : k = l.length := by omega
      have HN : Hid (y = l.foldl max x) := Lib.hid (by rw [hT.out, List.take_length])
      go_wp2_with fail
      go_ret
      exact ⟨ret_int' HN.out, hB.out⟩
end Go.Proofs.Ytjllkmekchmmbaa
