/- The walk of BeamLetters. -/
import Derived.Test.YtglhlfabfcneeaaDoorG0
import Derived.Test.YtglhlfabfcneeaaDoorP5
namespace Go.Proofs.YtglhlfabfcneeaaDoor
open Go.RowKit Go.Shelf

theorem code_form (b : UInt8) : ∃ (p : ByteArray) (q : Bool), codeV b = .tuple #[.string p, .bool q] := by
  unfold codeV; split
  · exact ⟨_, _, rfl⟩
  · exact ⟨_, _, rfl⟩
theorem letter_form (c : List UInt8) : ∃ (p : Nat) (q : Bool), letterV c = .tuple #[.int .u8 p, .bool q] := by
  unfold letterV; split
  · exact ⟨_, _, rfl⟩
  · exact ⟨0, _, rfl⟩
theorem checks_form (s : List UInt8) : ∃ (p q : ByteArray) (e : Int), checksV s = .tuple #[.string p, .string q, .int .i64 e] ∧ checksA s = .agg #[.string p, .string q, .int .i64 e] := by
  unfold checksV checksA; split
  · exact ⟨_, _, _, rfl, rfl⟩
  · exact ⟨_, _, _, rfl, rfl⟩

set_option maxRecDepth 100000 in
set_option maxHeartbeats 2000000 in
theorem letters_law (b : UInt8) (c s : ByteArray) (w : World) (hG : Glob w) (hc : c.size ≤ maxLen) (hs : s.size ≤ maxLen) :
    Calls Tryd.prog 3 #[.int .u8 b.toNat, .string c, .string s] w fun e w' => e = .returned (.bool true) ∧ Below w.heap.size w w' := by
  have HG := Lib.hid hG
  obtain ⟨p1, q1, f1⟩ := code_form b
  obtain ⟨p2, q2, f2⟩ := letter_form c.data.toList
  obtain ⟨p3, q3, e3, f3, g3⟩ := checks_form s.data.toList
  have F1 := Lib.hid f1; have F2 := Lib.hid f2; have F3 := Lib.hid f3; have G3 := Lib.hid g3
  clear hG f1 f2 f3 g3
  by_cases h1 : 60 < c.size
  · have h1' : (60 : Int) < c.size := by omega
    go_enter Tryd.func3, Tryd.ntmps3
    go_wp2_with fail
    refine (head_any _ HG.out).mono ?_
    rintro e w1 ⟨rfl, hb⟩
    have HB := Lib.hid hb
    clear hb
    go_wp2_with fail
    go_ret
    exact ⟨rfl, HB.out⟩
  · have h1' : decide ((60 : Int) < c.size) = false := decide_eq_false (by omega)
    by_cases h2 : 60 < s.size
    · have h2' : (60 : Int) < s.size := by omega
      go_enter Tryd.func3, Tryd.ntmps3
      go_wp2_with fail
      refine (head_any _ HG.out).mono ?_
      rintro e w1 ⟨rfl, hb⟩
      have HB := Lib.hid hb
      clear hb
      go_wp2_with fail
      go_ret
      exact ⟨rfl, HB.out⟩
    · have h2' : decide ((60 : Int) < s.size) = false := decide_eq_false (by omega)
      go_enter Tryd.func3, Tryd.ntmps3
      go_wp2_with fail
      refine (head_any _ HG.out).mono ?_
      rintro e w1 ⟨rfl, hb⟩
      have HB := Lib.hid hb
      clear hb
      go_wp2_with fail
      refine (code_any _ _ (HG.out.below HB.out).env.1).mono ?_
      rintro e w' ⟨rfl, rfl⟩
      rw [F1.out]
      go_wp2_with fail
      refine (rcode_any _ _).mono ?_
      rintro e w2 ⟨rfl, hb⟩
      rw [F1.out]
      have HB2 := Lib.hid (HB.out.trans (hb.mono HB.out.size))
      clear hb
      go_wp2_with fail
      refine (letter_any _ _ (HG.out.below HB2.out).env.1).mono ?_
      rintro e w' ⟨rfl, rfl⟩
      rw [F2.out]
      go_wp2_with fail
      refine (rletter_any _ _).mono ?_
      rintro e w3 ⟨rfl, hb⟩
      rw [F2.out]
      have HB3 := Lib.hid (HB2.out.trans (hb.mono HB2.out.size))
      clear hb
      go_wp2_with fail
      refine (checks_any _ _ hs).mono ?_
      rintro e w' ⟨rfl, rfl⟩
      rw [F3.out]
      go_wp2_with fail
      refine (rchecks_any _ _ hs).mono ?_
      rintro e w4 ⟨rfl, hb⟩
      rw [G3.out]
      have HB4 := Lib.hid (HB3.out.trans (hb.mono HB3.out.size))
      clear hb
      go_wp2_with (first
        | (go_at_call 19; refine (value_any _ _).mono ?_; rintro e w' ⟨rfl, rfl⟩)
        | (go_at_call 20; refine (rvalue_any _ _).mono ?_; rintro e w' ⟨rfl, rfl⟩)
        | (go_at_call 21; refine (word_any _ _ hs).mono ?_; rintro e w' ⟨rfl, rfl⟩)
        | (go_at_call 22; refine (rword_any _ _ hs).mono ?_; rintro e w' ⟨rfl, rfl⟩))
      go_ret
      exact ⟨rfl, HB4.out.alloc HB4.out.size _⟩
end Go.Proofs.YtglhlfabfcneeaaDoor
