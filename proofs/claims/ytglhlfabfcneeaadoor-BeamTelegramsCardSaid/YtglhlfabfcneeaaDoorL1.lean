/- The walk of BeamTelegrams. -/
import Derived.Test.YtglhlfabfcneeaaDoorG0
import Derived.Test.YtglhlfabfcneeaaDoorP2
namespace Go.Proofs.YtglhlfabfcneeaaDoor
open Go.RowKit Go.Shelf

theorem unpackV_ok {s : List UInt8} (h : unB s = true) : unpackV s = .tuple #[.agg #[.int .i64 (unK (s.getD 0 0)), .int .i64 (unN s), .string (B (s.drop 3))], .int .i64 0] := by unfold unpackV; rw [if_pos h]
theorem unpackV_no {s : List UInt8} (h : unB s = false) : unpackV s = .tuple #[.agg #[.int .i64 0, .int .i64 0, .string ⟨#[]⟩], .int .i64 7] := by unfold unpackV; rw [if_neg (by rw [h]; decide)]

/-- What both Packs answer, in two values of which nothing else is said. -/
theorem pack_form (k n : Int) (t : List UInt8) : ∃ (p : ByteArray) (e : Int), packV k n t = .tuple #[.string p, .int .i64 e] := by
  cases h : validB k n t
  · exact ⟨_, _, packV_no h⟩
  · exact ⟨_, _, packV_ok h⟩
theorem unpack_form (s : List UInt8) : ∃ (a b : Int) (p : ByteArray) (e : Int), unpackV s = .tuple #[.agg #[.int .i64 a, .int .i64 b, .string p], .int .i64 e] := by
  cases h : unB s
  · exact ⟨_, _, _, _, unpackV_no h⟩
  · exact ⟨_, _, _, _, unpackV_ok h⟩

set_option maxRecDepth 100000 in
set_option maxHeartbeats 2000000 in
theorem telegrams_law (k n : Int) (t s : ByteArray) (w : World) (hG : Glob w) (ht : t.size ≤ maxLen) (hs : s.size ≤ maxLen) :
    Calls Tryd.prog 9 #[.agg #[.int .i64 k, .int .i64 n, .string t], .string s] w fun e w' => e = .returned (.bool true) ∧ Below w.heap.size w w' := by
  have hb0 : Below w.heap.size w (w.alloc (.cells #[.int .i64 k, .int .i64 n, .string t] 65)) := (Below.refl _ w).alloc (Nat.le_refl _) _
  have hG0 := hG.below hb0
  have HG := Lib.hid hG0
  have HB0 := Lib.hid hb0
  obtain ⟨p1, e1, q1⟩ := pack_form k n t.data.toList
  obtain ⟨a2, b2, p2, e2, q2⟩ := unpack_form s.data.toList
  have Q1 := Lib.hid q1; have Q2 := Lib.hid q2
  clear hG hG0 hb0 q1 q2
  by_cases h1 : 60 < t.size
  · have h1' : (60 : Int) < t.size := by omega
    go_enter Tryd.func9, Tryd.ntmps9
    go_wp2_with fail
    refine (head_any _ HG.out).mono ?_
    rintro e w1 ⟨rfl, hb⟩
    have c0 := (hb.cell (p := ⟨w.heap.size, 2, none⟩) (by simp)).trans (show _ = some (.string t) by go_simp)
    have HB := Lib.hid (HB0.out.trans (hb.mono (by simp)))
    clear hb
    go_wp2_with fail
    go_ret
    exact ⟨rfl, HB.out⟩
  · have h1' : decide ((60 : Int) < t.size) = false := decide_eq_false (by omega)
    by_cases h2 : 60 < s.size
    · have h2' : (60 : Int) < s.size := by omega
      go_enter Tryd.func9, Tryd.ntmps9
      go_wp2_with fail
      refine (head_any _ HG.out).mono ?_
      rintro e w1 ⟨rfl, hb⟩
      have c0 := (hb.cell (p := ⟨w.heap.size, 2, none⟩) (by simp)).trans (show _ = some (.string t) by go_simp)
      have HB := Lib.hid (HB0.out.trans (hb.mono (by simp)))
      clear hb
      go_wp2_with fail
      go_ret
      exact ⟨rfl, HB.out⟩
    · have h2' : decide ((60 : Int) < s.size) = false := decide_eq_false (by omega)
      go_enter Tryd.func9, Tryd.ntmps9
      go_wp2_with fail
      refine (head_any _ HG.out).mono ?_
      rintro e w1 ⟨rfl, hb⟩
      have c2 := (hb.cell (p := ⟨w.heap.size, 2, none⟩) (by simp)).trans (show _ = some (.string t) by go_simp)
      have c1 := (hb.cell (p := ⟨w.heap.size, 1, none⟩) (by simp)).trans (show _ = some (.int .i64 n) by go_simp)
      have c0 := (hb.cell (p := ⟨w.heap.size, 0, none⟩) (by simp)).trans (show _ = some (.int .i64 k) by go_simp)
      have HB := Lib.hid (HB0.out.trans (hb.mono (by simp)))
      have hz1 : w.heap.size < w1.heap.size := Nat.lt_of_lt_of_le (by simp) hb.size
      clear hb
      go_wp2_with fail
      refine (pack_any _ _ _ _ ht).mono ?_
      rintro e w2 ⟨rfl, hb⟩
      rw [Q1.out]
      have d2 := (hb.cell (p := ⟨w.heap.size, 2, none⟩) hz1).trans c2
      have d1 := (hb.cell (p := ⟨w.heap.size, 1, none⟩) hz1).trans c1
      have d0 := (hb.cell (p := ⟨w.heap.size, 0, none⟩) hz1).trans c0
      have HB2 := Lib.hid (HB.out.trans (hb.mono HB.out.size))
      clear hb c0 c1 c2 hz1
      go_wp2_with fail
      refine (rpack_any _ _ _ _ ht).mono ?_
      rintro e w3 ⟨rfl, hb⟩
      rw [Q1.out]
      have HB3 := Lib.hid (HB2.out.trans (hb.mono HB2.out.size))
      clear hb d0 d1 d2
      go_wp2_with fail
      refine (unpack_any _ _ hs).mono ?_
      rintro e w4 ⟨rfl, hb⟩
      rw [Q2.out]
      have HB4 := Lib.hid (HB3.out.trans (hb.mono HB3.out.size))
      clear hb
      go_wp2_with fail
      refine (runpack_any _ _ hs).mono ?_
      rintro e w5 ⟨rfl, hb⟩
      rw [Q2.out]
      have c0 := (hb.cell (p := ⟨w4.heap.size, 0, none⟩) (by simp)).trans (show _ = some (.int .i64 a2) by go_simp)
      have c1 := (hb.cell (p := ⟨w4.heap.size, 1, none⟩) (by simp)).trans (show _ = some (.int .i64 b2) by go_simp)
      have c2 := (hb.cell (p := ⟨w4.heap.size, 2, none⟩) (by simp)).trans (show _ = some (.string p2) by go_simp)
      have hz5 : w4.heap.size < w5.heap.size := Nat.lt_of_lt_of_le (by simp) hb.size
      have hb5 : Below w4.heap.size w4 w5 := ((Below.refl _ w4).alloc (Nat.le_refl _) _).trans (hb.mono (by simp))
      have HB5 := Lib.hid (HB4.out.trans (hb5.mono HB4.out.size))
      clear hb hb5
      go_wp2_with fail
      go_ret
      exact ⟨rfl, HB5.out.alloc HB5.out.size _⟩
end Go.Proofs.YtglhlfabfcneeaaDoor
