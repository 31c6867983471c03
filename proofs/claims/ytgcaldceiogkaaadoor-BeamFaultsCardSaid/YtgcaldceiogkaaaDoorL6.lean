/- The walk of BeamFaults. -/
import Derived.Test.YtgcaldceiogkaaaDoorG0
import Derived.Test.YtgcaldceiogkaaaDoorQ5
namespace Go.Proofs.YtgcaldceiogkaaaDoor
open Go.RowKit Go.Shelf

theorem faulted_form (s : List UInt8) (l : List Flt) : ∃ (p : List UInt8) (e : Int), faultedV s l = .tuple #[.string (B p), .int .i64 e] ∧ p.length ≤ 2 * s.length := by
  unfold faultedV
  split
  · exact ⟨_, _, rfl, faultedK_length _ _ _⟩
  · exact ⟨[], _, rfl, by simp⟩

set_option maxRecDepth 100000 in
set_option maxHeartbeats 4000000 in
theorem faults_law (sb rb : ByteArray) (v : Value) (l : List Flt) (W : World) (hG : Glob W) (ms : sb.size ≤ maxLen) (mr : rb.size ≤ maxLen) (hv : FRow W v l) (hcap : ∀ a n c, v = .slice a n c → n ≤ c) :
    Calls Tryd.prog 3 #[.string sb, .string rb, v] W fun e w' => e = .returned (.bool true) ∧ Below W.heap.size W w' := by
  obtain ⟨s, rfl⟩ : ∃ s, sb = B s := ⟨_, (B_L sb).symm⟩
  obtain ⟨r, rfl⟩ : ∃ r, rb = B r := ⟨_, (B_L rb).symm⟩
  have HG := Lib.hid hG
  have HV := Lib.hid hv
  have HCP := Lib.hid hcap
  obtain ⟨a, cap, rfl, _⟩ := hv.form
  clear hG hv hcap
  by_cases h1 : 200 < s.length
  · have g1 : (200 : Int) < s.length := by omega
    go_enter Tryd.func3, Tryd.ntmps3
    go_wp2_with fail
    refine (head_any _ HG.out).mono ?_
    rintro e v1 ⟨rfl, hb⟩
    have HB := Lib.hid hb
    clear hb
    go_wp2_with fail
    go_ret
    exact ⟨rfl, HB.out⟩
  have g1 : ¬ (200 : Int) < s.length := by omega
  by_cases h2 : 200 < r.length
  · have g2 : (200 : Int) < r.length := by omega
    go_enter Tryd.func3, Tryd.ntmps3
    go_wp2_with fail
    refine (head_any _ HG.out).mono ?_
    rintro e v1 ⟨rfl, hb⟩
    have HB := Lib.hid hb
    clear hb
    go_wp2_with fail
    go_ret
    exact ⟨rfl, HB.out⟩
  have g2 : ¬ (200 : Int) < r.length := by omega
  by_cases h3 : 60 < l.length
  · have g3 : (60 : Int) < l.length := by omega
    go_enter Tryd.func3, Tryd.ntmps3
    go_wp2_with fail
    refine (head_any _ HG.out).mono ?_
    rintro e v1 ⟨rfl, hb⟩
    have HB := Lib.hid hb
    clear hb
    go_wp2_with fail
    go_ret
    exact ⟨rfl, HB.out⟩
  have g3 : ¬ (60 : Int) < l.length := by omega
  obtain ⟨p, e0, hf, hp⟩ := faulted_form s l
  have HF : Hid (faultedV (B s).data.toList l = .tuple #[.string (B p), .int .i64 e0]) := Lib.hid (by rw [L_B]; exact hf)
  have HF2 := Lib.hid hf
  obtain ⟨c1, hc1⟩ : ∃ c1, ckE s r l = c1 := ⟨_, rfl⟩
  obtain ⟨c2, hc2⟩ : ∃ c2, ckE s p l = c2 := ⟨_, rfl⟩
  have HC1 : Hid (ckE (B s).data.toList r l = c1) := Lib.hid (by rw [L_B]; exact hc1)
  have HC2 : Hid (ckE (B s).data.toList p l = c2) := Lib.hid (by rw [L_B]; exact hc2)
  have HD1 := Lib.hid hc1
  have HD2 := Lib.hid hc2
  have ml : s.length ≤ maxLen := by unfold maxLen; omega
  have mrl : r.length ≤ maxLen := by unfold maxLen; omega
  have mpl : p.length ≤ maxLen := by unfold maxLen; omega
  have mll : l.length ≤ 1000000 := by omega
  have ML := Lib.hid ml
  have MR := Lib.hid mrl
  have MP := Lib.hid mpl
  have MS := Lib.hid ms
  clear hf hc1 hc2 ml mrl mpl ms mr hp
  go_enter Tryd.func3, Tryd.ntmps3
  go_wp2_with fail
  refine (head_any _ HG.out).mono ?_
  rintro e v1 ⟨rfl, hb⟩
  have HB := Lib.hid hb
  clear hb
  go_wp2_with fail
  refine (faulted_any _ _ l _ MS.out (HV.out.keep HB.out) mll).mono ?_
  rintro e v2 ⟨rfl, hb⟩
  rw [HF.out]
  have HB2 := Lib.hid (HB.out.trans (hb.mono HB.out.size))
  clear hb
  go_wp2_with fail
  refine (rfaulted_any _ _ l _ ML.out (HV.out.keep HB2.out) mll HCP.out).mono ?_
  rintro e v3 ⟨rfl, hb⟩
  rw [HF2.out]
  have HB3 := Lib.hid (HB2.out.trans (hb.mono HB2.out.size))
  clear hb
  go_wp2_with fail
  refine (CheckFaults_any _ _ _ l _ MS.out MR.out (HV.out.keep HB3.out) mll).mono ?_
  rintro e v4 ⟨rfl, hb⟩
  rw [HC1.out]
  have HB4 := Lib.hid (HB3.out.trans (hb.mono HB3.out.size))
  clear hb
  go_wp2_with fail
  refine (rCheckFaults_any _ _ _ l _ ML.out MR.out (HV.out.keep HB4.out) mll HCP.out).mono ?_
  rintro e v5 ⟨rfl, hb⟩
  rw [HD1.out]
  have HB5 := Lib.hid (HB4.out.trans (hb.mono HB4.out.size))
  clear hb
  go_wp2_with fail
  refine (CheckFaults_any _ _ _ l _ MS.out MP.out (HV.out.keep HB5.out) mll).mono ?_
  rintro e v6 ⟨rfl, hb⟩
  rw [HC2.out]
  have HB6 := Lib.hid (HB5.out.trans (hb.mono HB5.out.size))
  clear hb
  go_wp2_with fail
  refine (rCheckFaults_any _ _ _ l _ ML.out MP.out (HV.out.keep HB6.out) mll HCP.out).mono ?_
  rintro e v7 ⟨rfl, hb⟩
  rw [HD2.out]
  have HB7 := Lib.hid (HB6.out.trans (hb.mono HB6.out.size))
  clear hb
  go_wp2_with fail
  go_ret
  exact ⟨rfl, HB7.out⟩
end Go.Proofs.YtgcaldceiogkaaaDoor
