/- The walk of BeamConfusions. -/
import Derived.Test.YtjhkgfbkpgnodaaGreatDoorG0
import Derived.Test.YtjhkgfbkpgnodaaGreatDoorX1
namespace Go.Proofs.YtjhkgfbkpgnodaaGreatDoor
open Go.RowKit Go.Shelf

def briefB (n : Nat) : Bool := decide (n ≤ 4) || (decide (10 < n) && decide (n ≤ 60))
theorem brief_any (x : List UInt8) (w : World) : Calls Tryz.prog 13 #[.string (B x)] w fun e w' => e = .returned (.bool (briefB x.length)) ∧ w = w' := by
  by_cases h1 : x.length ≤ 4
  · have HV : Hid (briefB x.length = true) := Lib.hid (by unfold briefB; rw [decide_eq_true h1]; rfl)
    have g1 : (x.length : Int) ≤ 4 := by omega
    clear h1
    go_enter Tryz.func13, Tryz.ntmps13
    go_wp2_with fail
    go_ret
    exact ⟨ret_bool HV.out.symm, rfl⟩
  · have g1 : decide ((x.length : Int) ≤ 4) = false := decide_eq_false (by omega)
    by_cases h2 : 10 < x.length
    · have g2 : decide ((10 : Int) < x.length) = true := decide_eq_true (by omega)
      by_cases h3 : x.length ≤ 60
      · have HV : Hid (briefB x.length = true) := Lib.hid (by unfold briefB; rw [decide_eq_true h2, decide_eq_true h3]; simp)
        have g3 : decide ((x.length : Int) ≤ 60) = true := decide_eq_true (by omega)
        clear h1 h2 h3
        go_enter Tryz.func13, Tryz.ntmps13
        go_wp2_with fail
        go_ret
        exact ⟨ret_bool HV.out.symm, rfl⟩
      · have HV : Hid (briefB x.length = false) := Lib.hid (by unfold briefB; rw [decide_eq_false h1, decide_eq_false h3]; simp)
        have g3 : decide ((x.length : Int) ≤ 60) = false := decide_eq_false (by omega)
        clear h1 h2 h3
        go_enter Tryz.func13, Tryz.ntmps13
        go_wp2_with fail
        go_ret
        exact ⟨ret_bool HV.out.symm, rfl⟩
    · have HV : Hid (briefB x.length = false) := Lib.hid (by unfold briefB; rw [decide_eq_false h1, decide_eq_false h2]; simp)
      have g2 : decide ((10 : Int) < x.length) = false := decide_eq_false (by omega)
      clear h1 h2
      go_enter Tryz.func13, Tryz.ntmps13
      go_wp2_with fail
      go_ret
      exact ⟨ret_bool HV.out.symm, rfl⟩

set_option maxRecDepth 100000 in
set_option maxHeartbeats 2000000 in
theorem confusions_law (ab bb : ByteArray) (n : Int) (W : World) (hG : Glob W) (ma : ab.size ≤ maxLen) (mb : bb.size ≤ maxLen) :
    Calls Tryz.prog 4 #[.string ab, .string bb, .int .i64 n] W fun e w' => e = .returned (.bool true) ∧ Below W.heap.size W w' := by
  obtain ⟨a, rfl⟩ : ∃ s, ab = B s := ⟨_, (B_L ab).symm⟩
  obtain ⟨b, rfl⟩ : ∃ s, bb = B s := ⟨_, (B_L bb).symm⟩
  have HG := Lib.hid hG
  have MA : Hid (a.length ≤ maxLen) := Lib.hid (by rwa [size_B] at ma)
  have MB : Hid (b.length ≤ maxLen) := Lib.hid (by rwa [size_B] at mb)
  clear hG ma mb
  by_cases h1 : briefB a.length = true
  case neg =>
    have H1 : Hid (briefB a.length = false) := Lib.hid (by simpa using h1)
    clear h1
    go_enter Tryz.func4, Tryz.ntmps4
    go_wp2_with fail
    refine (head_any _ HG.out).mono ?_
    rintro e v1 ⟨rfl, hb⟩
    have HB := Lib.hid hb
    clear hb
    go_wp2_with fail
    refine (brief_any _ _).mono ?_
    rintro e v2 ⟨rfl, rfl⟩
    rw [H1.out]
    go_wp2_with fail
    go_ret
    exact ⟨rfl, HB.out⟩
  by_cases h2 : briefB b.length = true
  case neg =>
    have H1 := Lib.hid h1
    have H2 : Hid (briefB b.length = false) := Lib.hid (by simpa using h2)
    clear h1 h2
    go_enter Tryz.func4, Tryz.ntmps4
    go_wp2_with fail
    refine (head_any _ HG.out).mono ?_
    rintro e v1 ⟨rfl, hb⟩
    have HB := Lib.hid hb
    clear hb
    go_wp2_with fail
    refine (brief_any _ _).mono ?_
    rintro e v2 ⟨rfl, rfl⟩
    rw [H1.out]
    go_wp2_with fail
    refine (brief_any _ _).mono ?_
    rintro e v2 ⟨rfl, rfl⟩
    rw [H2.out]
    go_wp2_with fail
    go_ret
    exact ⟨rfl, HB.out⟩
  have H1 := Lib.hid h1
  have H2 := Lib.hid h2
  clear h1 h2
  obtain ⟨x, is, q, HC, HR⟩ := conf_both a b n MA.out MB.out
  have HCH := Lib.hid HC
  have HRH := Lib.hid HR
  clear HC HR
  go_enter Tryz.func4, Tryz.ntmps4
  go_wp2_with fail
  refine (head_any _ HG.out).mono ?_
  rintro e v1 ⟨rfl, hb⟩
  have HB := Lib.hid hb
  clear hb
  go_wp2_with fail
  refine (brief_any _ _).mono ?_
  rintro e v2 ⟨rfl, rfl⟩
  rw [H1.out]
  go_wp2_with fail
  refine (brief_any _ _).mono ?_
  rintro e v2 ⟨rfl, rfl⟩
  rw [H2.out]
  go_wp2_with fail
  refine (HCH.out _ (HG.out.below HB.out).env).mono ?_
  rintro e v3 ⟨rfl, hb⟩
  have HB2 := Lib.hid (HB.out.trans (hb.mono HB.out.size))
  clear hb
  go_wp2_with fail
  refine (HRH.out _).mono ?_
  rintro e v4 ⟨rfl, hb⟩
  have HB3 := Lib.hid (HB2.out.trans (hb.mono HB2.out.size))
  clear hb
  go_wp2_with fail
  go_ret
  refine ⟨?_, HB3.out.alloc HB3.out.size _⟩
  simp
end Go.Proofs.YtjhkgfbkpgnodaaGreatDoor
