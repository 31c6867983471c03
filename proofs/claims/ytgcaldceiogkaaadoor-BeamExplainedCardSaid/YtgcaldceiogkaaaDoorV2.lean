/- The reference's Fewest. -/
import Derived.Test.YtgcaldceiogkaaaDoorV1
import Derived.Test.YtgcaldceiogkaaaDoorQ4
namespace Go.Proofs.YtgcaldceiogkaaaDoor
open Go.RowKit Go.Shelf

theorem rFewest_any (s r : List UInt8) (w : World) (hs : s.length ≤ maxLen) (hr : r.length ≤ maxLen) :
    Calls Tryd.prog 16 #[.string (B s), .string (B r)] w fun e w' => e = .returned (fewE s r) ∧ Below w.heap.size w w' := by
  have HS : Hid ((B s).size ≤ maxLen) := Lib.hid (by rw [size_B]; exact hs)
  have HR : Hid ((B r).size ≤ maxLen) := Lib.hid (by rw [size_B]; exact hr)
  clear hs hr
  by_cases hE : bothE s r = 0
  · obtain ⟨h1, h2⟩ := bothE_le hE
    have HE : Hid (bothE (B s).data.toList (B r).data.toList = 0) := Lib.hid (by rw [L_B, L_B]; exact hE)
    have HFV : Hid (fewE s r = if dT s r s.length r.length ≤ (s.length : Int) then .tuple #[.int .i64 (dT s r s.length r.length), .bool true, .int .i64 0] else .tuple #[.int .i64 0, .bool false, .int .i64 0]) := Lib.hid (by
      unfold fewE; rw [if_pos hE]; rfl)
    obtain ⟨t1, t2⟩ := tables (s := s) (r := r) h1
    obtain ⟨x, ex⟩ : ∃ x, eT s r 0 0 = x := ⟨_, rfl⟩
    have HX := Lib.hid ex
    rw [ex] at t1 t2
    by_cases hx : x < 1000
    · have hq : decide (1000 ≤ x) = false := decide_eq_false (by omega)
      have hd := t1.2 hx
      have HV2 : Hid (fewE s r = .tuple #[.int .i64 x, .bool true, .int .i64 0]) := Lib.hid (by rw [HFV.out, if_pos hd, t2 hd])
      clear t1 t2 ex hE hx hd
      go_enter Tryd.func16, Tryd.ntmps16
      go_wp2_with fail
      refine (rtwo_any _ _ _ HS.out HR.out).mono ?_
      rintro e w' ⟨rfl, rfl⟩
      rw [HE.out]
      go_wp2_with fail
      refine (rFaults_any s r _ h1 h2).mono ?_
      rintro e w2 ⟨rfl, hb⟩
      rw [HX.out]
      have HB := Lib.hid hb
      clear hb
      go_wp2_with fail
      go_ret3
      exact ⟨ret_val HV2.out.symm, HB.out⟩
    · have hq : decide (1000 ≤ x) = true := decide_eq_true (by omega)
      have hd : ¬ dT s r s.length r.length ≤ s.length := fun h => hx (t1.1 h)
      have HV2 : Hid (fewE s r = .tuple #[.int .i64 0, .bool false, .int .i64 0]) := Lib.hid (by rw [HFV.out, if_neg hd])
      clear t1 t2 ex hE hx hd
      go_enter Tryd.func16, Tryd.ntmps16
      go_wp2_with fail
      refine (rtwo_any _ _ _ HS.out HR.out).mono ?_
      rintro e w' ⟨rfl, rfl⟩
      rw [HE.out]
      go_wp2_with fail
      refine (rFaults_any s r _ h1 h2).mono ?_
      rintro e w2 ⟨rfl, hb⟩
      rw [HX.out]
      have HB := Lib.hid hb
      clear hb
      go_wp2_with fail
      go_ret3
      exact ⟨ret_val HV2.out.symm, HB.out⟩
  · have hne : (bothE (B s).data.toList (B r).data.toList != 0) = true := by rw [L_B, L_B]; simpa using hE
    have HF : Hid (fewE s r = .tuple #[.int .i64 0, .bool false, .int .i64 (bothE (B s).data.toList (B r).data.toList)]) := Lib.hid (by unfold fewE; rw [if_neg hE, L_B, L_B])
    obtain ⟨q, eq⟩ : ∃ q, bothE (B s).data.toList (B r).data.toList = q := ⟨_, rfl⟩
    rw [eq] at hne HF
    have HQ := Lib.hid eq
    clear hE eq
    go_enter Tryd.func16, Tryd.ntmps16
    go_wp2_with fail
    refine (rtwo_any _ _ _ HS.out HR.out).mono ?_
    rintro e w' ⟨rfl, rfl⟩
    rw [HQ.out]
    go_wp2_with fail
    go_ret3
    exact ⟨ret_val HF.out.symm, Below.refl _ _⟩
end Go.Proofs.YtgcaldceiogkaaaDoor
