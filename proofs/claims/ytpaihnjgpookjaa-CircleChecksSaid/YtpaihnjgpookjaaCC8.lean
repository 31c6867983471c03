/- Package circle: Shows, opening. -/
import Derived.Test.YtpaihnjgpookjaaCC7
set_option linter.unusedVariables false
set_option linter.unusedSimpArgs false
namespace Go.Proofs.Ytpaihnjgpookjaa
open Go Go.RowKit

def shB (a b c d z s : Int) : Bool := brB a b c d && ciB z (-300) 300 && ciB s 1 100
def shLo (a b c d z s : Int) : Int := if shB a b c d z s = true then brUp a b c d + z - s else 0
def shHi (a b c d z s : Int) : Int := if shB a b c d z s = true then brDn a b c d + z + s else 0
set_option maxRecDepth 100000 in
set_option maxHeartbeats 4000000 in
theorem opening_any (r0 r1 r2 r3 lo hi : Int) (w : World) (h1 : 0 ≤ r3 ∧ r3 ≤ 1000) (h2 : -300 ≤ lo ∧ lo ≤ 300) (h3 : -300 ≤ hi ∧ hi ≤ 300) :
    Calls Try.prog 89 #[.agg #[.int .i64 r0, .int .i64 r1, .int .i64 r2, .int .i64 r3], .agg #[.int .i64 lo, .int .i64 hi]] w fun e w' => e = .returned (.int .i64 (2 * r3 + hi - lo)) ∧ Below w.heap.size w w' := by
  have e1 : IntKind.i64.wrap (2 * r3) = 2 * r3 := IntWalk.i64_in _ (by omega)
  have e2 : IntKind.i64.wrap (2 * r3 + hi) = 2 * r3 + hi := IntWalk.i64_in _ (by omega)
  have e3 : IntKind.i64.wrap (2 * r3 + hi - lo) = 2 * r3 + hi - lo := IntWalk.i64_in _ (by omega)
  have HB := Lib.hid (two_cells w #[.int .i64 r0, .int .i64 r1, .int .i64 r2, .int .i64 r3] #[.int .i64 lo, .int .i64 hi] 77 49 (Below.refl _ _)).2.2.2
  clear h1 h2 h3
  go_enter Try.func89, Try.ntmps89
  go_wp2_with fail
  go_ret
  exact ⟨rfl, HB.out⟩
set_option maxRecDepth 100000 in
set_option maxHeartbeats 4000000 in
theorem Shows_any (a b c d z s : Int) (w : World) :
    Calls Try.prog 40 #[.agg #[.int .i64 a, .int .i64 b], .agg #[.int .i64 c, .int .i64 d], .int .i64 z, .int .i64 s] w fun e w' => e = .returned (.tuple #[.agg #[.int .i64 (shLo a b c d z s), .int .i64 (shHi a b c d z s)], .bool (shB a b c d z s)]) ∧ Below w.heap.size w w' := by
  have H1 := Lib.hid (fun w' => bearingOf_any a b c d w')
  have H2 := Lib.hid (fun w' => validZero_any z w')
  have H3 := Lib.hid (fun w' => validSlack_any s w')
  have hbd := br_bd a b c d
  have HL : Hid (shLo a b c d z s = if shB a b c d z s = true then brUp a b c d + z - s else 0) := Lib.hid rfl
  have HH : Hid (shHi a b c d z s = if shB a b c d z s = true then brDn a b c d + z + s else 0) := Lib.hid rfl
  have HB : Hid (shB a b c d z s = (brB a b c d && ciB z (-300) 300 && ciB s 1 100)) := Lib.hid rfl
  have HZR : Hid (ciB z (-300) 300 = true → -300 ≤ z ∧ z ≤ 300) := Lib.hid ci_iff.1
  have HSR : Hid (ciB s 1 100 = true → 1 ≤ s ∧ s ≤ 100) := Lib.hid ci_iff.1
  obtain ⟨dn, hdn⟩ : ∃ n, brDn a b c d = n := ⟨_, rfl⟩
  obtain ⟨up, hup⟩ : ∃ n, brUp a b c d = n := ⟨_, rfl⟩
  obtain ⟨ok, hok⟩ : ∃ n, brB a b c d = n := ⟨_, rfl⟩
  obtain ⟨B, hB⟩ : ∃ n, shB a b c d z s = n := ⟨_, rfl⟩
  obtain ⟨L, hL⟩ : ∃ n, shLo a b c d z s = n := ⟨_, rfl⟩
  obtain ⟨Q, hQ⟩ : ∃ n, shHi a b c d z s = n := ⟨_, rfl⟩
  obtain ⟨c1, hc1⟩ : ∃ n, ciB z (-300) 300 = n := ⟨_, rfl⟩
  obtain ⟨c2, hc2⟩ : ∃ n, ciB s 1 100 = n := ⟨_, rfl⟩
  rw [hdn, hup, hok] at H1
  rw [hdn, hup] at hbd
  rw [hL, hB, hup] at HL
  rw [hQ, hB, hdn] at HH
  rw [hB, hok, hc1, hc2] at HB
  rw [hB, hL, hQ]
  rw [hc1] at H2 HZR
  rw [hc2] at H3 HSR
  clear hdn hup hok hB hL hQ hc1 hc2
  go_enter Try.func40, Try.ntmps40
  go_wp2_with fail
  have HA := Lib.hid (fun W' => cells3 w #[.int .i64 a, .int .i64 b] #[.int .i64 c, .int .i64 d] #[.int .i64 0, .int .i64 0] 25 25 49 (W := W'))
  have HB0 := Lib.hid (Below.refl (((w.alloc (.cells #[.int .i64 a, .int .i64 b] 25)).alloc (.cells #[.int .i64 c, .int .i64 d] 25)).alloc (.cells #[.int .i64 0, .int .i64 0] 49)).heap.size (((w.alloc (.cells #[.int .i64 a, .int .i64 b] 25)).alloc (.cells #[.int .i64 c, .int .i64 d] 25)).alloc (.cells #[.int .i64 0, .int .i64 0] 49)))
  obtain ⟨Z, hZ⟩ : ∃ Z, ((w.alloc (.cells #[.int .i64 a, .int .i64 b] 25)).alloc (.cells #[.int .i64 c, .int .i64 d] 25)).alloc (.cells #[.int .i64 0, .int .i64 0] 49) = Z := ⟨_, rfl⟩
  rw [hZ] at HA HB0 ⊢
  clear hZ
  refine (H1.out Z).mono ?_
  rintro e w1 ⟨rfl, hb⟩
  have hY := cells1 w1 #[.int .i64 dn, .int .i64 up] 90 (Below.refl _ _)
  have HBY := Lib.hid (HB0.out.trans (hb.trans (hY.2.2.mono hb.size)))
  have HQY := Lib.hid hY.1
  obtain ⟨Y, hYY⟩ : ∃ Y, w1.alloc (.cells #[.int .i64 dn, .int .i64 up] 90) = Y := ⟨_, rfl⟩
  obtain ⟨yb, hyb⟩ : ∃ y, w1.heap.size = y := ⟨_, rfl⟩
  rw [hYY] at HBY HQY
  rw [hyb] at HQY
  obtain ⟨x1, x2, x3, x4, x5⟩ := HA.out Y HBY.out
  have HX3 := Lib.hid x3
  have HX5 := Lib.hid x5
  have p0 := cellH HQY.out 0
  have p1 := cellH HQY.out 1
  have r0 := cellH x3 0
  have r1 := cellH x3 1
  have rf := freeH x3
  simp only [List.getElem?_toArray, List.getElem?_cons_zero, List.getElem?_cons_succ] at p0 p1 r0 r1
  clear hY hb x1 x2 x3 x4 x5
  cases ok
  case false =>
    have HN : Hid (B = false) := Lib.hid HB.out
    go_wp2_with fail
    obtain ⟨z1, z2⟩ := set2 HX3.out HX5.out (by omega) (.int .i64 0) (.int .i64 0)
    refine bodyPost_ret (res_ct Try.results40 _ _ (w.heap.size + 1 + 1) 49 #[.int .i64 0, .int .i64 0] (0, 0) _ rfl z1 Try.underlying49 rfl info_sp2) rfl ?_
    exact ⟨by rw [HL.out, HH.out, HN.out]; rfl, z2⟩
  cases c1
  case false =>
    have HN : Hid (B = false) := Lib.hid HB.out
    go_wp2_with fail
    refine (H2.out Y).mono ?_
    rintro e w2 ⟨rfl, rfl⟩
    clear hYY
    go_wp2_with fail
    obtain ⟨z1, z2⟩ := set2 HX3.out HX5.out (by omega) (.int .i64 0) (.int .i64 0)
    refine bodyPost_ret (res_ct Try.results40 _ _ (w.heap.size + 1 + 1) 49 #[.int .i64 0, .int .i64 0] (0, 0) _ rfl z1 Try.underlying49 rfl info_sp2) rfl ?_
    exact ⟨by rw [HL.out, HH.out, HN.out]; rfl, z2⟩
  cases c2
  case false =>
    have HN : Hid (B = false) := Lib.hid HB.out
    go_wp2_with fail
    refine (H2.out Y).mono ?_
    rintro e w2 ⟨rfl, rfl⟩
    clear hYY
    go_wp2_with fail
    refine (H3.out _).mono ?_
    rintro e w3 ⟨rfl, rfl⟩
    go_wp2_with fail
    obtain ⟨z1, z2⟩ := set2 HX3.out HX5.out (by omega) (.int .i64 0) (.int .i64 0)
    refine bodyPost_ret (res_ct Try.results40 _ _ (w.heap.size + 1 + 1) 49 #[.int .i64 0, .int .i64 0] (0, 0) _ rfl z1 Try.underlying49 rfl info_sp2) rfl ?_
    exact ⟨by rw [HL.out, HH.out, HN.out]; rfl, z2⟩
  case true =>
    have HN : Hid (B = true) := Lib.hid HB.out
    have hz := HZR.out rfl
    have hs := HSR.out rfl
    have e1 : IntKind.i64.wrap (up + z) = up + z := IntWalk.i64_in _ (by omega)
    have e2 : IntKind.i64.wrap (up + z - s) = up + z - s := IntWalk.i64_in _ (by omega)
    have e3 : IntKind.i64.wrap (dn + z) = dn + z := IntWalk.i64_in _ (by omega)
    have e4 : IntKind.i64.wrap (dn + z + s) = dn + z + s := IntWalk.i64_in _ (by omega)
    clear hz hs hbd
    go_wp2_with fail
    refine (H2.out Y).mono ?_
    rintro e w2 ⟨rfl, rfl⟩
    clear hYY
    go_wp2_with fail
    refine (H3.out _).mono ?_
    rintro e w3 ⟨rfl, rfl⟩
    go_wp2_with fail
    obtain ⟨z1, z2⟩ := set2 HX3.out HX5.out (by omega) (.int .i64 (up + z - s)) (.int .i64 (dn + z + s))
    refine bodyPost_ret (res_ct Try.results40 _ _ (w.heap.size + 1 + 1) 49 #[.int .i64 (up + z - s), .int .i64 (dn + z + s)] (0, 0) _ rfl z1 Try.underlying49 rfl info_sp2) rfl ?_
    exact ⟨by rw [HL.out, HH.out, HN.out]; rfl, z2⟩
end Go.Proofs.Ytpaihnjgpookjaa
