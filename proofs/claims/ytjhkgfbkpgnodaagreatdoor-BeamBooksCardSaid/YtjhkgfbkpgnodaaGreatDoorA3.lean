/- Contract of Pack of package beam. -/
import Derived.Test.YtjhkgfbkpgnodaaGreatDoorA1
import Derived.Test.YtjhkgfbkpgnodaaGreatDoorT0
import Derived.Deep.RegionHeld3
import Derived.Deep.RegionWith
namespace Go.Proofs.YtjhkgfbkpgnodaaGreatDoor
open Go.RowKit Go.Shelf

theorem sign_quiet (v : Int) (w : World) (h0 : 0 ≤ v) (h1 : v ≤ 1000000) :
    Calls Tryz.prog 62 #[.int .i64 v] w fun e w' => e = .returned (.string (B (signL v))) ∧ w' = w :=
  (sign_any v w h0 h1).mono fun _ _ ⟨a, b⟩ => ⟨a, b.symm⟩

def packV (k n : Int) (t : List UInt8) : Value :=
  if validB k n t then .tuple #[.string (B ((if k = 2 then 114 else 109) :: (signL (n / 26 + 1) ++ signL (n % 26 + 1) ++ t))), .int .i64 0]
  else .tuple #[.string ⟨#[]⟩, .int .i64 1]

theorem validB_n {k n : Int} {t : List UInt8} (h : validB k n t = true) : 0 ≤ n ∧ n ≤ 675 ∧ (k = 1 ∨ k = 2) ∧ t.length ≤ 7 := by
  simp only [validB, Bool.and_eq_true, Bool.or_eq_true, decide_eq_true_eq, List.isEmpty_iff] at h
  obtain ⟨⟨h0, h1⟩, ⟨hk, (h | h)⟩ | ⟨hk, h⟩⟩ := h
  · exact ⟨h0, h1, .inl hk, by simp [h]⟩
  · exact ⟨h0, h1, .inl hk, h.2⟩
  · exact ⟨h0, h1, .inr hk, by simp [h]⟩

theorem pack_any (k n : Int) (t : ByteArray) (w : World) (hs : t.size ≤ maxLen) :
    Calls Tryz.prog 28 #[.agg #[.int .i64 k, .int .i64 n, .string t]] w fun e w' => e = .returned (packV k n t.data.toList) ∧ Below w.heap.size w w' := by
  have hB := (Below.refl w.heap.size w).alloc (Nat.le_refl _) (.cells #[.int .i64 k, .int .i64 n, .string t] 73)
  by_cases hv : validB k n t.data.toList = true
  · obtain ⟨hn0, hn1, hk, ht⟩ := validB_n hv
    have ht : t.size ≤ 7 := ht
    have Hv := Lib.hid hv
    clear hv
    have a1 : IntKind.i64.wrap (n.tdiv 26) = n / 26 := by rw [Int.tdiv_eq_ediv_of_nonneg hn0, IntWalk.i64_in _ (by omega)]
    have a2 : IntKind.i64.wrap (n / 26 + 1) = n / 26 + 1 := IntWalk.i64_in _ (by omega)
    have a3 : IntKind.i64.wrap (n.tmod 26 + 1) = n % 26 + 1 := by rw [Int.tmod_eq_emod_of_nonneg hn0, IntWalk.i64_in _ (by omega)]
    have a6 : ¬ 9223372036854775807 < 3 + t.size := by omega
    have A1 := Lib.hid a1; have A2 := Lib.hid a2; have A3 := Lib.hid a3
    clear a1 a2 a3
    rcases hk with rfl | rfl
    all_goals
      go_enter Tryz.func28, Tryz.ntmps28
      go_wp2_with fail
      refine (valid_any _ _ _ _ hs).mono ?_
      rintro e w1 ⟨rfl, hb⟩
      rw [Hv.out]
      have hc0 := (hb.cell (p := ⟨w.heap.size, 0, none⟩) (by simp)).trans (by go_simp; rfl)
      have hc1 : w1.cell? ⟨w.heap.size, 1, none⟩ = some (.int .i64 n) := (hb.cell (p := ⟨w.heap.size, 1, none⟩) (by simp)).trans (by go_simp)
      have hc2 : w1.cell? ⟨w.heap.size, 2, none⟩ = some (.string t) := (hb.cell (p := ⟨w.heap.size, 2, none⟩) (by simp)).trans (by go_simp)
      go_wp2_with fail
      have a1 := A1.out; have a2 := A2.out; have a3 := A3.out
      have a4 : 0 ≤ n / 26 + 1 := by omega
      have a5 : 0 ≤ n % 26 + 1 := by omega
      go_quiet ((go_at_call 62; exact Calls.quiet_of_same (sign_quiet _ _ (by omega) (by omega))))
      go_wp2
      go_ret2
      exact ⟨ret_val (by simp only [packV, Hv.out, if_true]; refine congrArg (fun x => Value.tuple #[.string x, .int .i64 0]) (ext_L ?_); simp [ByteArray.data_append]), below_drewN (hB.trans (hb.mono (by simp))) _⟩
  · have Hv : Hid (validB k n t.data.toList = false) := Lib.hid (by simpa using hv)
    clear hv
    go_enter Tryz.func28, Tryz.ntmps28
    go_wp2_with fail
    refine (valid_any _ _ _ _ hs).mono ?_
    rintro e w1 ⟨rfl, hb⟩
    rw [Hv.out]
    go_wp2
    go_ret2
    exact ⟨ret_val (by simp [packV, Hv.out]), hB.trans (hb.mono (by simp))⟩

end Go.Proofs.YtjhkgfbkpgnodaaGreatDoor
