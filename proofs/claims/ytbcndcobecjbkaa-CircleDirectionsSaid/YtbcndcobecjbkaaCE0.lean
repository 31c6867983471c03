/- Package firetowerlaw05: CircleDirections. -/
import Derived.Test.YtbcndcobecjbkaaCD9
set_option linter.unusedVariables false
set_option linter.unusedSimpArgs false
namespace Go.Proofs.Ytbcndcobecjbkaa
open Go Go.RowKit

set_option maxRecDepth 100000 in
set_option maxHeartbeats 8000000 in
theorem directions_card (n a b c d : Int) (w : World) (hn : -9223372036854775808 ≤ n ∧ n ≤ 9223372036854775807) : Calls Try.prog 3 #[.int .i64 n, .agg #[.int .i64 a, .int .i64 b], .agg #[.int .i64 c, .int .i64 d]] w fun e w' => e = .returned (.bool true) ∧ Below w.heap.size w w' := by
  have H1 := Lib.hid (fun w' => Division_any a b c d w')
  have H2 := Lib.hid (fun w' => pDivision_any a b c d w')
  have H3 := Lib.hid (fun w' => sanity_any w')
  have H4 := Lib.hid (fun w' => Vector_any n w')
  have H5 := Lib.hid (fun w' => pVector_any n w')
  unfold dvV at H1 H2
  obtain ⟨q, hq⟩ : ∃ x, brDn a b c d = x := ⟨_, rfl⟩
  obtain ⟨r, hr⟩ : ∃ x, brB a b c d = x := ⟨_, rfl⟩
  obtain ⟨X, hX⟩ : ∃ x, vcX n = x := ⟨_, rfl⟩
  obtain ⟨Y, hY⟩ : ∃ x, vcY n = x := ⟨_, rfl⟩
  rw [hq, hr] at H1 H2
  rw [hX, hY] at H4 H5
  clear hq hr hX hY
  have HA := Lib.hid (fun W' => two_cells w #[.int .i64 a, .int .i64 b] #[.int .i64 c, .int .i64 d] 23 23 (W := W'))
  go_enter Try.func3, Try.ntmps3
  go_wp2_with fail
  refine (H1.out _).mono ?_
  rintro e w1 ⟨rfl, hb1⟩
  obtain ⟨x1, x2, _, xb⟩ := HA.out w1 hb1
  have q0 := cellH x1 0
  have q1 := cellH x1 1
  have r0 := cellH x2 0
  have r1 := cellH x2 1
  simp only [List.getElem?_toArray, List.getElem?_cons_zero, List.getElem?_cons_succ] at q0 q1 r0 r1
  have HXB := Lib.hid xb
  clear hb1 x1 x2 xb
  go_wp2_with fail
  refine (H2.out _).mono ?_
  rintro e w2 ⟨rfl, hb2⟩
  have HB2 := Lib.hid (HXB.out.trans (hb2.mono HXB.out.size))
  clear hb2 q0 q1 r0 r1
  go_wp2_with fail
  refine (H3.out _).mono ?_
  rintro e w3 ⟨rfl, hb3⟩
  have HB3 := Lib.hid (HB2.out.trans (hb3.mono HB2.out.size))
  clear hb3
  go_wp2_with fail
  refine (H4.out _).mono ?_
  rintro e w4 ⟨rfl, hb4⟩
  have HB4 := Lib.hid (HB3.out.trans (hb4.mono HB3.out.size))
  clear hb4
  go_wp2_with fail
  refine (H5.out _).mono ?_
  rintro e w5 ⟨rfl, hb5⟩
  have HB5 := Lib.hid (HB4.out.trans (hb5.mono HB4.out.size))
  clear hb5
  go_wp2_with fail
  go_ret
  exact ⟨rfl, HB5.out⟩
end Go.Proofs.Ytbcndcobecjbkaa
