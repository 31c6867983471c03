/- The statements' brief and book. -/
import Derived.Test.YtjbdmlpadoiicaaGreatDoorG0
import Derived.Test.YtjbdmlpadoiicaaGreatDoorU0
set_option linter.unusedVariables false
set_option linter.unusedSimpArgs false
namespace Go.Proofs.YtjbdmlpadoiicaaGreatDoor
open Go.RowKit Go.Shelf

def briefB (n : Nat) : Bool := decide (n ≤ 4) || (decide (10 < n) && decide (n ≤ 60))
theorem brief_any (x : List UInt8) (w : World) : Calls Tryz.prog 13 #[.string (B x)] w fun e w' => e = .returned (.bool (briefB x.length)) ∧ w = w' := by
  by_cases h1 : x.length ≤ 4
  · have HV : Hid (briefB x.length = true) := Lib.hid (by unfold briefB; rw [decide_eq_true h1]; rfl)
    have g1 : (x.length : Int) ≤ 4 := by omega
    clear h1
    go_enter Tryz.func13, Tryz.ntmps13
    go_wp2_with fail
    go_ret
    exact ⟨ret_bool HV.out.symm, rfl⟩
  · have g1 : decide ((x.length : Int) ≤ 4) = false := decide_eq_false (by omega)
    by_cases h2 : 10 < x.length
    · have g2 : decide ((10 : Int) < x.length) = true := decide_eq_true (by omega)
      by_cases h3 : x.length ≤ 60
      · have HV : Hid (briefB x.length = true) := Lib.hid (by unfold briefB; rw [decide_eq_true h2, decide_eq_true h3]; simp)
        have g3 : decide ((x.length : Int) ≤ 60) = true := decide_eq_true (by omega)
        clear h1 h2 h3
        go_enter Tryz.func13, Tryz.ntmps13
        go_wp2_with fail
        go_ret
        exact ⟨ret_bool HV.out.symm, rfl⟩
      · have HV : Hid (briefB x.length = false) := Lib.hid (by unfold briefB; rw [decide_eq_false h1, decide_eq_false h3]; simp)
        have g3 : decide ((x.length : Int) ≤ 60) = false := decide_eq_false (by omega)
        clear h1 h2 h3
        go_enter Tryz.func13, Tryz.ntmps13
        go_wp2_with fail
        go_ret
        exact ⟨ret_bool HV.out.symm, rfl⟩
    · have HV : Hid (briefB x.length = false) := Lib.hid (by unfold briefB; rw [decide_eq_false h1, decide_eq_false h2]; simp)
      have g2 : decide ((10 : Int) < x.length) = false := decide_eq_false (by omega)
      clear h1 h2
      go_enter Tryz.func13, Tryz.ntmps13
      go_wp2_with fail
      go_ret
      exact ⟨ret_bool HV.out.symm, rfl⟩

def bookB (l : List (List UInt8)) : Bool := (l.all fun x => briefB x.length) && (decide (l.length ≤ 4) || (decide (8 < l.length) && decide (l.length ≤ 20)))
set_option maxRecDepth 100000 in
theorem book_any (v : Value) (l : List (List UInt8)) (w : World) (hv : SRow w v l) (hl : l.length ≤ 9223372036854775807) :
    Calls Tryz.prog 16 #[v] w fun e w' => e = .returned (.bool (bookB l)) ∧ w = w' := by
  obtain ⟨a, cap, rfl, hc⟩ := hv.form
  have HC := Lib.hid hc
  have HB0 : Hid (bookB l = ((l.all fun x => briefB x.length) && (decide (l.length ≤ 4) || (decide (8 < l.length) && decide (l.length ≤ 20))))) := Lib.hid rfl
  clear hc hv
  go_enter Tryz.func16, Tryz.ntmps16
  go_wp2_with fail
  go_loop [3] (fun i => ∃ k : Nat, k ≤ l.length ∧ i = .int .i64 k ∧ Hid (((l.take k).all fun x => briefB x.length) = true)) (fun i => l.length - (intOf i).toNat)
  case atStart => exact ⟨0, Nat.zero_le _, rfl, Lib.hid rfl⟩
  case round =>
    obtain ⟨k, hk, rfl, hT⟩ := hrel
    by_cases hlt : k < l.length
    · obtain ⟨g, off, rfl, hg, c0⟩ := HC.out k hlt
      have hlti : (k : Int) < l.length := by omega
      have hk0 : (0 : Int) ≤ k := by omega
      have HG : Hid (l.getD k [] = l[k]) := Lib.hid (by rw [List.getD_eq_getElem?_getD, List.getElem?_eq_getElem hlt]; rfl)
      have HT : Hid (l.take (k + 1) = l.take k ++ [l[k]]) := Lib.hid (List.take_succ_eq_append_getElem hlt)
      obtain ⟨x, hx⟩ : ∃ x, l.getD k [] = x := ⟨_, rfl⟩
      rw [hx] at c0 HG
      have HXB := Lib.hid (brief_any x w)
      cases hb : briefB x.length
      · have HF : Hid (bookB l = false) := Lib.hid (by
          rw [HB0.out]
          have : (l.all fun x => briefB x.length) = false := by
            rw [List.all_eq_false]
            exact ⟨l[k], List.getElem_mem _, by rw [← HG.out, hb]; simp⟩
          rw [this]; rfl)
        rw [hb] at HXB
        clear hb hx
        go_wp2_with fail
        refine HXB.out.mono ?_
        rintro e w' ⟨rfl, rfl⟩
        go_wp2_with fail
        go_ret
        exact ⟨ret_bool HF.out.symm, rfl⟩
      · have HN : Hid (((l.take (k + 1)).all fun x => briefB x.length) = true) := Lib.hid (by rw [HT.out, List.all_append, hT.out, ← HG.out]; simp [hb])
        rw [hb] at HXB
        clear hb hx
        go_wp2_with fail
        refine HXB.out.mono ?_
        rintro e w' ⟨rfl, rfl⟩
        go_wp2_with fail
        go_round
        case rel => exact ⟨k + 1, by omega, by go_num, HN⟩
        case measure => simp [intOf]; omega
    · obtain rfl : k = l.length := by omega
      have HA : Hid (bookB l = (decide (l.length ≤ 4) || (decide (8 < l.length) && decide (l.length ≤ 20)))) := Lib.hid (by
        have := hT.out; rw [List.take_length] at this
        rw [HB0.out, this, Bool.true_and])
      by_cases h4 : l.length ≤ 4
      · have HV : Hid (bookB l = true) := Lib.hid (by rw [HA.out, decide_eq_true h4]; rfl)
        have g4 : (l.length : Int) ≤ 4 := by omega
        clear h4
        go_wp2_with fail
        go_ret
        exact ⟨ret_bool HV.out.symm, rfl⟩
      · have g4 : decide ((l.length : Int) ≤ 4) = false := decide_eq_false (by omega)
        by_cases h8 : 8 < l.length
        · have g8 : decide ((8 : Int) < l.length) = true := decide_eq_true (by omega)
          by_cases h20 : l.length ≤ 20
          · have HV : Hid (bookB l = true) := Lib.hid (by rw [HA.out, decide_eq_true h8, decide_eq_true h20]; simp)
            have g20 : decide ((l.length : Int) ≤ 20) = true := decide_eq_true (by omega)
            clear h4 h8 h20
            go_wp2_with fail
            go_ret
            exact ⟨ret_bool HV.out.symm, rfl⟩
          · have HV : Hid (bookB l = false) := Lib.hid (by rw [HA.out, decide_eq_false h4, decide_eq_false h20]; simp)
            have g20 : decide ((l.length : Int) ≤ 20) = false := decide_eq_false (by omega)
            clear h4 h8 h20
            go_wp2_with fail
            go_ret
            exact ⟨ret_bool HV.out.symm, rfl⟩
        · have HV : Hid (bookB l = false) := Lib.hid (by rw [HA.out, decide_eq_false h4, decide_eq_false h8]; simp)
          have g8 : decide ((8 : Int) < l.length) = false := decide_eq_false (by omega)
          clear h4 h8
          go_wp2_with fail
          go_ret
          exact ⟨ret_bool HV.out.symm, rfl⟩
end Go.Proofs.YtjbdmlpadoiicaaGreatDoor
