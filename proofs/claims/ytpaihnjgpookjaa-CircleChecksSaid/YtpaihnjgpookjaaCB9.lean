/- Package circle: clash. -/
import Derived.Test.YtpaihnjgpookjaaCB7
set_option linter.unusedVariables false
set_option linter.unusedSimpArgs false
namespace Go.Proofs.Ytpaihnjgpookjaa
open Go Go.RowKit

/-- Two things contradict each other. -/
def clB (dr : Int) (a b : Th) : Bool := !a.no && !b.no && (decide (frI dr a.t b.t < a.lo - b.hi) || decide (frI dr a.t b.t < b.lo - a.hi))
/-- A thing's numbers are in their bounds. -/
def Th.ok (h : Th) : Prop := (0 ≤ h.t ∧ h.t ≤ 1048576) ∧ (-300 ≤ h.lo ∧ h.lo ≤ 300) ∧ -300 ≤ h.hi ∧ h.hi ≤ 300
set_option maxRecDepth 100000 in
set_option maxHeartbeats 4000000 in
theorem clash_any (z : Ci) (v : Value) (g h : Th) (w : World) (hd : 0 ≤ z.dr ∧ z.dr ≤ 60) (hg : g.ok) (hh : h.ok) :
    Calls Try.prog 99 #[dlV z v, g.val, h.val] w fun e w' => e = .returned (.bool (clB z.dr g h)) ∧ Below w.heap.size w w' := by
  have HFA := Lib.hid (fun w' => far_any z v g.t h.t w' hd hg.1 hh.1)
  have hb2 := (fr_mul hd hg.1 hh.1).2
  have HCL : Hid (clB z.dr g h = (!g.no && !h.no && (decide (frI z.dr g.t h.t < g.lo - h.hi) || decide (frI z.dr g.t h.t < h.lo - g.hi)))) := Lib.hid rfl
  obtain ⟨F, hF⟩ : ∃ m, frI z.dr g.t h.t = m := ⟨_, rfl⟩
  obtain ⟨R, hR⟩ : ∃ m, clB z.dr g h = m := ⟨_, rfl⟩
  rw [hF] at HFA hb2 HCL
  rw [hR] at HCL ⊢
  obtain ⟨_, hg2, hg3⟩ := hg
  obtain ⟨_, hh2, hh3⟩ := hh
  obtain ⟨g0, g1, g2, g3, g4, g5, g6, g7, g8, g9⟩ := g
  obtain ⟨h0, h1, h2, h3, h4, h5, h6, h7, h8, h9⟩ := h
  obtain ⟨zi, zx, zy, zf, zt, zl, zh, dr⟩ := z
  simp only at hg2 hg3 hh2 hh3 HCL HFA
  have e1 : IntKind.i64.wrap (g7 - h8) = g7 - h8 := IntWalk.i64_in _ (by omega)
  have e2 : IntKind.i64.wrap (h7 - g8) = h7 - g8 := IntWalk.i64_in _ (by omega)
  clear hg2 hg3 hh2 hh3 hb2 hF hR hd
  have HA := Lib.hid (fun W' => cells3 w #[.int .i64 zi, .int .i64 zx, .int .i64 zy, .int .i64 zf, .int .i64 zt, .int .i64 zl, .int .i64 zh, .int .i64 dr, v] #[.int .i64 g0, .int .i64 g1, .int .i64 g2, .int .i64 g3, .int .i64 g4, .int .i64 g5, .int .i64 g6, .int .i64 g7, .int .i64 g8, .bool g9] #[.int .i64 h0, .int .i64 h1, .int .i64 h2, .int .i64 h3, .int .i64 h4, .int .i64 h5, .int .i64 h6, .int .i64 h7, .int .i64 h8, .bool h9] 112 125 125 (W := W'))
  have HB0 := Lib.hid (Below.refl (((w.alloc (.cells #[.int .i64 zi, .int .i64 zx, .int .i64 zy, .int .i64 zf, .int .i64 zt, .int .i64 zl, .int .i64 zh, .int .i64 dr, v] 112)).alloc (.cells #[.int .i64 g0, .int .i64 g1, .int .i64 g2, .int .i64 g3, .int .i64 g4, .int .i64 g5, .int .i64 g6, .int .i64 g7, .int .i64 g8, .bool g9] 125)).alloc (.cells #[.int .i64 h0, .int .i64 h1, .int .i64 h2, .int .i64 h3, .int .i64 h4, .int .i64 h5, .int .i64 h6, .int .i64 h7, .int .i64 h8, .bool h9] 125)).heap.size (((w.alloc (.cells #[.int .i64 zi, .int .i64 zx, .int .i64 zy, .int .i64 zf, .int .i64 zt, .int .i64 zl, .int .i64 zh, .int .i64 dr, v] 112)).alloc (.cells #[.int .i64 g0, .int .i64 g1, .int .i64 g2, .int .i64 g3, .int .i64 g4, .int .i64 g5, .int .i64 g6, .int .i64 g7, .int .i64 g8, .bool g9] 125)).alloc (.cells #[.int .i64 h0, .int .i64 h1, .int .i64 h2, .int .i64 h3, .int .i64 h4, .int .i64 h5, .int .i64 h6, .int .i64 h7, .int .i64 h8, .bool h9] 125)))
  obtain ⟨Z, hZ⟩ : ∃ Z, ((w.alloc (.cells #[.int .i64 zi, .int .i64 zx, .int .i64 zy, .int .i64 zf, .int .i64 zt, .int .i64 zl, .int .i64 zh, .int .i64 dr, v] 112)).alloc (.cells #[.int .i64 g0, .int .i64 g1, .int .i64 g2, .int .i64 g3, .int .i64 g4, .int .i64 g5, .int .i64 g6, .int .i64 g7, .int .i64 g8, .bool g9] 125)).alloc (.cells #[.int .i64 h0, .int .i64 h1, .int .i64 h2, .int .i64 h3, .int .i64 h4, .int .i64 h5, .int .i64 h6, .int .i64 h7, .int .i64 h8, .bool h9] 125) = Z := ⟨_, rfl⟩
  rw [hZ] at HA HB0
  have HZ := Lib.hid hZ
  clear hZ
  go_enter Try.func99, Try.ntmps99
  go_wp2_with fail
  rw [HZ.out]
  refine (HFA.out Z).mono ?_
  rintro e w1 ⟨rfl, hb⟩
  obtain ⟨_, y1, y2, _, yb⟩ := HA.out w1 hb
  have HBE := Lib.hid yb
  have a7 := cellH y1 7
  have a8 := cellH y1 8
  have a9 := cellH y1 9
  have b7 := cellH y2 7
  have b8 := cellH y2 8
  have b9 := cellH y2 9
  simp only [List.getElem?_toArray, List.getElem?_cons_zero, List.getElem?_cons_succ] at a7 a8 a9 b7 b8 b9
  clear hb y1 y2 yb
  cases g9
  case true =>
    have HN : Hid (R = false) := Lib.hid (by rw [HCL.out]; rfl)
    go_wp2_with fail
    go_ret
    exact ⟨by rw [HN.out]; rfl, HBE.out⟩
  cases h9
  case true =>
    have HN : Hid (R = false) := Lib.hid (by rw [HCL.out]; rfl)
    go_wp2_with fail
    go_ret
    exact ⟨by rw [HN.out]; rfl, HBE.out⟩
  by_cases c1 : F < g7 - h8
  · have HN : Hid (R = true) := Lib.hid (by rw [HCL.out, decide_eq_true c1]; rfl)
    go_wp2_with fail
    go_ret
    exact ⟨by rw [HN.out]; rfl, HBE.out⟩
  · have d1 : decide (F < g7 - h8) = false := decide_eq_false c1
    by_cases c2 : F < h7 - g8
    · have HN : Hid (R = true) := Lib.hid (by rw [HCL.out, decide_eq_true c2]; simp)
      go_wp2_with fail
      go_ret
      exact ⟨by rw [HN.out]; rfl, HBE.out⟩
    · have d2 : decide (F < h7 - g8) = false := decide_eq_false c2
      have HN : Hid (R = false) := Lib.hid (by rw [HCL.out, d1, d2]; rfl)
      go_wp2_with fail
      go_ret
      exact ⟨by rw [HN.out]; rfl, HBE.out⟩
end Go.Proofs.Ytpaihnjgpookjaa
