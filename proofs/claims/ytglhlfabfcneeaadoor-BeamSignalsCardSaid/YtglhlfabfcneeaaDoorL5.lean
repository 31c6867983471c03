/- The walk of BeamSignals. -/
import Derived.Test.YtglhlfabfcneeaaDoorG0
import Derived.Test.YtglhlfabfcneeaaDoorP8
namespace Go.Proofs.YtglhlfabfcneeaaDoor
open Go.RowKit Go.Shelf

theorem signal_form (l : List UInt8) : ∃ (p : ByteArray) (e : Int), signalV l = .tuple #[.string p, .int .i64 e] := by
  unfold signalV; split
  · exact ⟨_, _, rfl⟩
  · exact ⟨_, _, rfl⟩
theorem read_form (l : List UInt8) : ∃ (p : ByteArray) (e : Int), readV l = .tuple #[.string p, .int .i64 e] := by
  rcases read_cases l with ⟨_, _, _, h⟩ | ⟨p, e, _, h⟩
  · exact ⟨_, _, h⟩
  · exact ⟨p, e, h⟩

set_option maxRecDepth 100000 in
set_option maxHeartbeats 2000000 in
theorem signals_law (a s : ByteArray) (w : World) (hG : Glob w) (ha : a.size ≤ maxLen) (hs : s.size ≤ maxLen) :
    Calls Tryd.prog 4 #[.string a, .string s] w fun e w' => e = .returned (.bool true) ∧ Below w.heap.size w w' := by
  have HG := Lib.hid hG
  obtain ⟨p1, e1, f1⟩ := signal_form a.data.toList
  obtain ⟨p2, e2, f2⟩ := read_form s.data.toList
  have F1 := Lib.hid f1; have F2 := Lib.hid f2
  clear hG f1 f2
  by_cases h1 : 300 < a.size
  · have h1' : (300 : Int) < a.size := by omega
    go_enter Tryd.func4, Tryd.ntmps4
    go_wp2_with fail
    refine (head_any _ HG.out).mono ?_
    rintro e w1 ⟨rfl, hb⟩
    have HB := Lib.hid hb
    clear hb
    go_wp2_with fail
    go_ret
    exact ⟨rfl, HB.out⟩
  · have h1' : decide ((300 : Int) < a.size) = false := decide_eq_false (by omega)
    by_cases h2 : 300 < s.size
    · have h2' : (300 : Int) < s.size := by omega
      go_enter Tryd.func4, Tryd.ntmps4
      go_wp2_with fail
      refine (head_any _ HG.out).mono ?_
      rintro e w1 ⟨rfl, hb⟩
      have HB := Lib.hid hb
      clear hb
      go_wp2_with fail
      go_ret
      exact ⟨rfl, HB.out⟩
    · have h2' : decide ((300 : Int) < s.size) = false := decide_eq_false (by omega)
      go_enter Tryd.func4, Tryd.ntmps4
      go_wp2_with fail
      refine (head_any _ HG.out).mono ?_
      rintro e w1 ⟨rfl, hb⟩
      have HB := Lib.hid hb
      clear hb
      go_wp2_with fail
      refine (signal_any _ _ ha (HG.out.below HB.out).env.1 (HG.out.below HB.out).env.2).mono ?_
      rintro e w2 ⟨rfl, hb⟩
      rw [F1.out]
      have HB2 := Lib.hid (HB.out.trans (hb.mono HB.out.size))
      clear hb
      go_wp2_with fail
      refine (rsignal_any _ _ ha).mono ?_
      rintro e w3 ⟨rfl, hb⟩
      rw [F1.out]
      have HB3 := Lib.hid (HB2.out.trans (hb.mono HB2.out.size))
      clear hb
      go_wp2_with fail
      refine (read_any _ _ hs (HG.out.below HB3.out).env).mono ?_
      rintro e w4 ⟨rfl, hb⟩
      rw [F2.out]
      have HB4 := Lib.hid (HB3.out.trans (hb.mono HB3.out.size))
      clear hb
      go_wp2_with fail
      refine (rread_any _ _ hs).mono ?_
      rintro e w5 ⟨rfl, hb⟩
      rw [F2.out]
      have HB5 := Lib.hid (HB4.out.trans (hb.mono HB4.out.size))
      clear hb
      go_wp2_with fail
      go_ret
      exact ⟨rfl, HB5.out⟩
end Go.Proofs.YtglhlfabfcneeaaDoor
