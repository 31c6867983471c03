/- The walk of BeamResults. -/
import Derived.Test.YtgcaldceiogkaaaDoorG0
import Derived.Test.YtgcaldceiogkaaaDoorW5
namespace Go.Proofs.YtgcaldceiogkaaaDoor
open Go.RowKit Go.Shelf

set_option maxRecDepth 100000 in
set_option maxHeartbeats 2000000 in
theorem results_law (sb : ByteArray) (n : Int) (W : World) (hG : Glob W) (ms : sb.size ≤ maxLen) :
    Calls Tryd.prog 5 #[.string sb, .int .i64 n] W fun e w' => e = .returned (.bool true) ∧ Below W.heap.size W w' := by
  obtain ⟨s, rfl⟩ : ∃ s, sb = B s := ⟨_, (B_L sb).symm⟩
  have HG := Lib.hid hG
  have MS := Lib.hid ms
  clear hG ms
  by_cases h1 : 200 < s.length
  · have g1 : (200 : Int) < s.length := by omega
    have g2 : (40 : Int) < s.length := by omega
    have g3 : decide ((s.length : Int) ≤ 100) = false := decide_eq_false (by omega)
    go_enter Tryd.func5, Tryd.ntmps5
    go_wp2_with fail
    refine (head_any _ HG.out).mono ?_
    rintro e v1 ⟨rfl, hb⟩
    have HB := Lib.hid hb
    clear hb
    go_wp2_with fail
    go_ret
    exact ⟨rfl, HB.out⟩
  by_cases h2 : 40 < s.length ∧ s.length ≤ 100
  · have g1 : (40 : Int) < s.length := by omega
    have g2 : (s.length : Int) ≤ 100 := by omega
    go_enter Tryd.func5, Tryd.ntmps5
    go_wp2_with fail
    refine (head_any _ HG.out).mono ?_
    rintro e v1 ⟨rfl, hb⟩
    have HB := Lib.hid hb
    clear hb
    go_wp2_with fail
    go_ret
    exact ⟨rfl, HB.out⟩
  have gq : (decide ((40 : Int) < s.length) && decide ((s.length : Int) ≤ 100)) = false := by
    rw [Bool.and_eq_false_iff]
    by_cases h : 40 < s.length
    · right; exact decide_eq_false (by omega)
    · left; exact decide_eq_false (by omega)
  have g0 : decide ((200 : Int) < s.length) = false := decide_eq_false (by omega)
  by_cases hE : resE s n = 0
  · obtain ⟨k1, k2, k3⟩ := resE_ok hE
    obtain ⟨m, rfl⟩ : ∃ m : Nat, n = m := ⟨n.toNat, by omega⟩
    have hll : (resL s m).length ≤ 1000000 := by
      have a1 := tidy_len (outL s m)
      have a2 := outL_le s m k1 (by omega)
      have : (resL s m).length ≤ (outL s m).length := a1
      omega
    have HE := Lib.hid hE
    clear hE k1 k2 k3
    by_cases h4 : 40 < s.length
    · exact absurd ⟨h4, (resE_ok HE.out).1⟩ h2
    have g4 : decide ((40 : Int) < s.length) = false := decide_eq_false (by omega)
    clear gq h1 h2 h4
    go_enter Tryd.func5, Tryd.ntmps5
    go_wp2_with fail
    refine (head_any _ HG.out).mono ?_
    rintro e v1 ⟨rfl, hb⟩
    have HB := Lib.hid hb
    clear hb
    go_wp2_with fail
    refine (Results_ok s m _ HE.out).mono ?_
    rintro e v2 ⟨r, cap, rfl, hrow, hb⟩
    have HX := Lib.hid (SRow.of_owned (l := resL s m) hrow)
    have HB2 := Lib.hid (HB.out.trans (hb.mono HB.out.size))
    clear hb hrow
    go_wp2_with fail
    refine (rResults_ok s m _ HE.out).mono ?_
    rintro e v3 ⟨y, rfl, hy, hb⟩
    have HX2 := Lib.hid (HX.out.keep hb)
    have HY := Lib.hid hy.srow
    obtain ⟨b2, off2, cap2, rfl, _⟩ := hy
    have HB3 := Lib.hid (HB2.out.trans (hb.mono HB2.out.size))
    clear hb
    unfold textsA
    go_wp2_with fail
    have hba := (Below.refl v3.heap.size v3).alloc (Nat.le_refl _) (.cells #[.slice (some ⟨b2, off2, none⟩) (resL s m).length cap2, .int .i64 0] 40)
    have HX3 := Lib.hid (HX2.out.keep hba)
    have HY3 := Lib.hid (HY.out.keep hba)
    have HB4 := Lib.hid (HB3.out.trans (hba.mono HB3.out.size))
    clear hba
    refine (texts_any _ _ (resL s m) (resL s m) _ HX3.out HY3.out hll hll).mono ?_
    rintro e v4 ⟨rfl, hb⟩
    rw [show decide (resL s m = resL s m) = true from decide_eq_true rfl]
    have hc1 : v4.cell? ⟨v3.heap.size, 1, none⟩ = some (.int .i64 0) := (hb.cell (p := ⟨v3.heap.size, 1, none⟩) (by simp)).trans (by rw [World.cell?_alloc_new]; rfl)
    have HB5 := Lib.hid (HB4.out.trans (hb.mono HB4.out.size))
    clear hb
    go_wp2_with fail
    go_ret
    exact ⟨rfl, HB5.out⟩
  · have HE : Hid (resE (B s).data.toList n ≠ 0) := Lib.hid (by rw [L_B]; exact hE)
    obtain ⟨q, eq⟩ : ∃ q, resE (B s).data.toList n = q := ⟨_, rfl⟩
    have HQ := Lib.hid eq
    by_cases h4 : 40 < s.length
    · have g4 : (40 : Int) < s.length := by omega
      have g5 : decide ((s.length : Int) ≤ 100) = false := decide_eq_false (by omega)
      clear gq h1 h2 h4 hE eq
      go_enter Tryd.func5, Tryd.ntmps5
      go_wp2_with fail
      refine (head_any _ HG.out).mono ?_
      rintro e v1 ⟨rfl, hb⟩
      have HB := Lib.hid hb
      clear hb
      go_wp2_with fail
      refine (Results_err _ n _ MS.out HE.out).mono ?_
      rintro e v2 ⟨rfl, hb⟩
      rw [HQ.out]
      have HB2 := Lib.hid (HB.out.trans (hb.mono HB.out.size))
      clear hb
      go_wp2_with fail
      refine (rResults_err _ n _ MS.out HE.out).mono ?_
      rintro e v3 ⟨rfl, hb⟩
      rw [HQ.out]
      have HB3 := Lib.hid (HB2.out.trans (hb.mono HB2.out.size))
      clear hb
      unfold textsA
      go_wp2_with fail
      have hba := (Below.refl v3.heap.size v3).alloc (Nat.le_refl _) (.cells #[.slice none 0 0, .int .i64 q] 40)
      have HB4 := Lib.hid (HB3.out.trans (hba.mono HB3.out.size))
      clear hba
      refine (texts_any _ _ [] [] _ (SRow.nil _) (SRow.nil _) (by simp) (by simp)).mono ?_
      rintro e v4 ⟨rfl, hb⟩
      have hc1 : v4.cell? ⟨v3.heap.size, 1, none⟩ = some (.int .i64 q) := (hb.cell (p := ⟨v3.heap.size, 1, none⟩) (by simp)).trans (by rw [World.cell?_alloc_new]; rfl)
      have HB5 := Lib.hid (HB4.out.trans (hb.mono HB4.out.size))
      clear hb
      rw [show decide (([] : List (List UInt8)) = []) = true from rfl]
      go_wp2_with fail
      go_ret
      exact ⟨rfl, HB5.out⟩
    · have g4 : decide ((40 : Int) < s.length) = false := decide_eq_false (by omega)
      clear gq h1 h2 h4 hE eq
      go_enter Tryd.func5, Tryd.ntmps5
      go_wp2_with fail
      refine (head_any _ HG.out).mono ?_
      rintro e v1 ⟨rfl, hb⟩
      have HB := Lib.hid hb
      clear hb
      go_wp2_with fail
      refine (Results_err _ n _ MS.out HE.out).mono ?_
      rintro e v2 ⟨rfl, hb⟩
      rw [HQ.out]
      have HB2 := Lib.hid (HB.out.trans (hb.mono HB.out.size))
      clear hb
      go_wp2_with fail
      refine (rResults_err _ n _ MS.out HE.out).mono ?_
      rintro e v3 ⟨rfl, hb⟩
      rw [HQ.out]
      have HB3 := Lib.hid (HB2.out.trans (hb.mono HB2.out.size))
      clear hb
      unfold textsA
      go_wp2_with fail
      have hba := (Below.refl v3.heap.size v3).alloc (Nat.le_refl _) (.cells #[.slice none 0 0, .int .i64 q] 40)
      have HB4 := Lib.hid (HB3.out.trans (hba.mono HB3.out.size))
      clear hba
      refine (texts_any _ _ [] [] _ (SRow.nil _) (SRow.nil _) (by simp) (by simp)).mono ?_
      rintro e v4 ⟨rfl, hb⟩
      have hc1 : v4.cell? ⟨v3.heap.size, 1, none⟩ = some (.int .i64 q) := (hb.cell (p := ⟨v3.heap.size, 1, none⟩) (by simp)).trans (by rw [World.cell?_alloc_new]; rfl)
      have HB5 := Lib.hid (HB4.out.trans (hb.mono HB4.out.size))
      clear hb
      rw [show decide (([] : List (List UInt8)) = []) = true from rfl]
      go_wp2_with fail
      go_ret
      exact ⟨rfl, HB5.out⟩
end Go.Proofs.YtgcaldceiogkaaaDoor
