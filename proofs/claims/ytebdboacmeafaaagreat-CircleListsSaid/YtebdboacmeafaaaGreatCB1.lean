/- Package circle: validCircle, tooMany, checkError. -/
import Derived.Test.YtebdboacmeafaaaGreatCB0
import Derived.Test.YtebdboacmeafaaaGreatCAA
import Derived.Test.YtebdboacmeafaaaGreatHIA
set_option linter.unusedVariables false
set_option linter.unusedSimpArgs false
namespace Go.Proofs.YtebdboacmeafaaaGreat
open Go Go.RowKit

def pkIf (l : Bool) (v u : Value) : Value := if l = true then v else u
theorem pkIf_true (v u : Value) : pkIf true v u = v := rfl
theorem wp_region_invn {P : Program} {ops : Array Oper} {Q : Exit → Act → World → Prop} {id : Nat} {a : Act} {w : World} (hm : P.follows .mixedOrders = true) (Inv : Array Bool → Act → World → Prop) (h0 : Inv (Array.replicate ops.size false) a { w with drawn := w.drawn + 1 })
    (hend : ∀ listed a w, Inv listed a w → Region.ready .any ops listed = [] → wpList P ops Q [] a w)
    (hstep : ∀ listed a w i, Inv listed a w → i ∈ Region.ready .any ops listed → wpOp P ops Q i (fun a' w' => Inv (listed.setIfInBounds i true) a' w') a w) : (Code.region id ops true).wp P Q a w :=
  wp_region_inv hm Inv h0 (fun l a w hi hr => hend l a w hi hr) hstep
/-- A circle is valid. -/
def Ci.ok (z : Ci) : Bool := ciB z.id 1 1099511627776 && omB z.x z.y && decide (0 ≤ z.f) && decide (z.f ≤ z.t) && decide (z.t ≤ 1048576) && decide (-300 ≤ z.lo) && decide (z.lo ≤ z.hi) && decide (z.hi ≤ 300) && ciB z.dr 0 60
theorem Ci.ok_iff {z : Ci} : z.ok = true ↔ (1 ≤ z.id ∧ z.id ≤ 1099511627776) ∧ ((0 ≤ z.x ∧ z.x ≤ 48) ∧ 0 ≤ z.y ∧ z.y ≤ 48) ∧ 0 ≤ z.f ∧ z.f ≤ z.t ∧ z.t ≤ 1048576 ∧ -300 ≤ z.lo ∧ z.lo ≤ z.hi ∧ z.hi ≤ 300 ∧ 0 ≤ z.dr ∧ z.dr ≤ 60 := by
  unfold Ci.ok
  simp only [Bool.and_eq_true, ci_iff, om_iff, decide_eq_true_eq, and_assoc]
set_option maxRecDepth 100000 in
set_option maxHeartbeats 4000000 in
theorem validCircle_any (z : Ci) (w : World) : Calls Tryz.prog 100 #[z.val] w fun e w' => e = .returned (.bool z.ok) ∧ Below w.heap.size w w' := by
  obtain ⟨id, x, y, f, t, lo, hi, dr⟩ := z
  have HO : Hid (Ci.ok ⟨id, x, y, f, t, lo, hi, dr⟩ = (ciB id 1 1099511627776 && omB x y && decide (0 ≤ f) && decide (f ≤ t) && decide (t ≤ 1048576) && decide (-300 ≤ lo) && decide (lo ≤ hi) && decide (hi ≤ 300) && ciB dr 0 60)) := Lib.hid rfl
  have H1 := Lib.hid (fun w' => validID_any id w')
  have H2 := Lib.hid (fun w' => onMap_any x y w')
  have H3 := Lib.hid (fun w' => qwithin_any dr 0 60 w')
  obtain ⟨b1, hb1⟩ : ∃ z, ciB id 1 1099511627776 = z := ⟨_, rfl⟩
  obtain ⟨b2, hb2⟩ : ∃ z, omB x y = z := ⟨_, rfl⟩
  obtain ⟨b3, hb3⟩ : ∃ z, ciB dr 0 60 = z := ⟨_, rfl⟩
  obtain ⟨B, hB⟩ : ∃ z, Ci.ok ⟨id, x, y, f, t, lo, hi, dr⟩ = z := ⟨_, rfl⟩
  rw [hb1] at H1 HO
  rw [hb2] at H2 HO
  rw [hb3] at H3 HO
  rw [hB] at HO ⊢
  have HA := Lib.hid (fun W' => cells1 w #[.int .i64 id, .int .i64 x, .int .i64 y, .int .i64 f, .int .i64 t, .int .i64 lo, .int .i64 hi, .int .i64 dr] 93 (W := W'))
  have HB0 := Lib.hid (Below.refl (w.alloc (.cells #[.int .i64 id, .int .i64 x, .int .i64 y, .int .i64 f, .int .i64 t, .int .i64 lo, .int .i64 hi, .int .i64 dr] 93)).heap.size (w.alloc (.cells #[.int .i64 id, .int .i64 x, .int .i64 y, .int .i64 f, .int .i64 t, .int .i64 lo, .int .i64 hi, .int .i64 dr] 93)))
  obtain ⟨Z, hZ⟩ : ∃ Z, w.alloc (.cells #[.int .i64 id, .int .i64 x, .int .i64 y, .int .i64 f, .int .i64 t, .int .i64 lo, .int .i64 hi, .int .i64 dr] 93) = Z := ⟨_, rfl⟩
  rw [hZ] at HA HB0
  have HZ := Lib.hid hZ
  clear hZ hb1 hb2 hb3 hB
  go_enter Tryz.func100, Tryz.ntmps100
  go_wp2_with fail
  rw [HZ.out]
  refine (H1.out Z).mono ?_
  rintro e w1 ⟨rfl, rfl⟩
  obtain ⟨z0, _, zb⟩ := HA.out w1 HB0.out
  have HZB := Lib.hid zb
  have q1 := cellH z0 1
  have q2 := cellH z0 2
  simp only [List.getElem?_toArray, List.getElem?_cons_zero, List.getElem?_cons_succ] at q1 q2
  clear z0 zb
  cases b1
  · have HN : Hid (B = false) := Lib.hid (by rw [HO.out]; rfl)
    go_wp2_with fail
    go_ret
    exact ⟨by rw [HN.out]; rfl, HZB.out⟩
  go_wp2_with fail
  refine (H2.out w1).mono ?_
  rintro e w2 ⟨rfl, hb⟩
  obtain ⟨z0, _, zb⟩ := HA.out w2 hb
  have HZB2 := Lib.hid zb
  clear q1 q2
  have q3 := cellH z0 3
  have q4 := cellH z0 4
  have q5 := cellH z0 5
  have q6 := cellH z0 6
  have q7 := cellH z0 7
  simp only [List.getElem?_toArray, List.getElem?_cons_zero, List.getElem?_cons_succ] at q3 q4 q5 q6 q7
  clear z0 zb hb
  cases b2
  · have HN : Hid (B = false) := Lib.hid (by rw [HO.out]; rfl)
    go_wp2_with fail
    go_ret
    exact ⟨by rw [HN.out]; rfl, HZB2.out⟩
  by_cases c0 : 0 ≤ f
  case neg =>
    have g : decide (0 ≤ f) = false := decide_eq_false c0
    have HN : Hid (B = false) := Lib.hid (by rw [HO.out, g]; simp)
    clear c0
    go_wp2_with fail
    go_ret
    exact ⟨by rw [HN.out]; rfl, HZB2.out⟩
  by_cases c1 : f ≤ t
  case neg =>
    have g : decide (f ≤ t) = false := decide_eq_false c1
    have HN : Hid (B = false) := Lib.hid (by rw [HO.out, g]; simp)
    clear c1
    go_wp2_with fail
    go_ret
    exact ⟨by rw [HN.out]; rfl, HZB2.out⟩
  by_cases c2 : t ≤ 1048576
  case neg =>
    have g : decide (t ≤ 1048576) = false := decide_eq_false c2
    have HN : Hid (B = false) := Lib.hid (by rw [HO.out, g]; simp)
    clear c2
    go_wp2_with fail
    go_ret
    exact ⟨by rw [HN.out]; rfl, HZB2.out⟩
  by_cases c3 : -300 ≤ lo
  case neg =>
    have g : decide (-300 ≤ lo) = false := decide_eq_false c3
    have HN : Hid (B = false) := Lib.hid (by rw [HO.out, g]; simp)
    clear c3
    go_wp2_with fail
    go_ret
    exact ⟨by rw [HN.out]; rfl, HZB2.out⟩
  by_cases c4 : lo ≤ hi
  case neg =>
    have g : decide (lo ≤ hi) = false := decide_eq_false c4
    have HN : Hid (B = false) := Lib.hid (by rw [HO.out, g]; simp)
    clear c4
    go_wp2_with fail
    go_ret
    exact ⟨by rw [HN.out]; rfl, HZB2.out⟩
  by_cases c5 : hi ≤ 300
  case neg =>
    have g : decide (hi ≤ 300) = false := decide_eq_false c5
    have HN : Hid (B = false) := Lib.hid (by rw [HO.out, g]; simp)
    clear c5
    go_wp2_with fail
    go_ret
    exact ⟨by rw [HN.out]; rfl, HZB2.out⟩
  have HN : Hid (B = b3) := Lib.hid (by rw [HO.out, decide_eq_true c0, decide_eq_true c1, decide_eq_true c2, decide_eq_true c3, decide_eq_true c4, decide_eq_true c5]; simp)
  go_wp2_with fail
  refine (H3.out w2).mono ?_
  rintro e w3 ⟨rfl, rfl⟩
  go_wp2_with fail
  go_ret
  exact ⟨by rw [HN.out]; rfl, HZB2.out⟩
set_option maxRecDepth 100000 in
theorem tooMany_any (a1 a2 : Option Addr) (n1 c1 n2 c2 : Nat) (w : World) (h1 : n1 ≤ 9223372036854775807) (h2 : n2 ≤ 9223372036854775807) :
    Calls Tryz.prog 48 #[.agg #[.slice a1 n1 c1, .slice a2 n2 c2]] w fun e w' => e = .returned (.bool (decide (12 < n1) || decide (60 < n2))) ∧ Below w.heap.size w w' := by
  have HB := Lib.hid ((Below.refl w.heap.size w).alloc (Nat.le_refl _) (.cells #[.slice a1 n1 c1, .slice a2 n2 c2] 25))
  obtain ⟨B, hB⟩ : ∃ z, (decide (12 < n1) || decide (60 < n2)) = z := ⟨_, rfl⟩
  rw [hB]
  have HBQ := Lib.hid hB
  clear hB
  by_cases c1 : 12 < n1
  · have c1' : (12 : Int) < (n1 : Int) := by omega
    have HN : Hid (B = true) := Lib.hid (by rw [← HBQ.out, decide_eq_true c1]; rfl)
    go_enter Tryz.func48, Tryz.ntmps48
    go_wp2_with fail
    go_ret
    exact ⟨by rw [HN.out]; rfl, HB.out⟩
  · have c1' : ¬ (12 : Int) < (n1 : Int) := by omega
    by_cases c2 : 60 < n2
    · have c2' : (60 : Int) < (n2 : Int) := by omega
      have HN : Hid (B = true) := Lib.hid (by rw [← HBQ.out, decide_eq_true c2]; simp)
      go_enter Tryz.func48, Tryz.ntmps48
      go_wp2_with fail
      go_ret
      exact ⟨by rw [HN.out]; rfl, HB.out⟩
    · have c2' : ¬ (60 : Int) < (n2 : Int) := by omega
      have HN : Hid (B = false) := Lib.hid (by rw [← HBQ.out, decide_eq_false c1, decide_eq_false c2]; rfl)
      go_enter Tryz.func48, Tryz.ntmps48
      go_wp2_with fail
      go_ret
      exact ⟨by rw [HN.out]; rfl, HB.out⟩
/-- The first error that a check has by itself. -/
def ceK (l : List Ci) (k : Ck) : Int :=
  if ciB k.id 1 1099511627776 && omB k.x k.y && ciB k.s 0 3599 && ciB k.sl 1 100 then
    (match ciF l k.c with
    | none => 5
    | some z => if (k.x == z.x && k.y == z.y) || !ciB k.t z.f z.t then 1 else 0)
  else 1
set_option maxRecDepth 100000 in
set_option maxHeartbeats 4000000 in
theorem checkError_any (v : Value) (l : List Ci) (k : Ck) (w : World) (hv : CiRow w v l) (hl : l.length ≤ 1000000) :
    Calls Tryz.prog 101 #[v, k.val] w fun e w' => e = .returned (.int .i64 (ceK l k)) ∧ Below w.heap.size w w' := by
  obtain ⟨id, c, t, x, y, s, sl⟩ := k
  have HCE : Hid (ceK l ⟨id, c, t, x, y, s, sl⟩ = if ciB id 1 1099511627776 && omB x y && ciB s 0 3599 && ciB sl 1 100 then
    (match ciF l c with
    | none => 5
    | some z => if (x == z.x && y == z.y) || !ciB t z.f z.t then 1 else 0)
  else 1) := Lib.hid rfl
  have H1 := Lib.hid (fun w' => validID_any id w')
  have H2 := Lib.hid (fun w' => onMap_any x y w')
  have H3 := Lib.hid (fun w' => validDivision_any s w')
  have H4 := Lib.hid (fun w' => validSlack_any sl w')
  have H5 := Lib.hid (fun w' (h : Below w.heap.size w w') => circleOf_any v l c w' (hv.keep h) hl)
  have H6 := Lib.hid (fun zf zt w' => qwithin_any t zf zt w')
  clear hv
  obtain ⟨b1, hb1⟩ : ∃ z, ciB id 1 1099511627776 = z := ⟨_, rfl⟩
  obtain ⟨b2, hb2⟩ : ∃ z, omB x y = z := ⟨_, rfl⟩
  obtain ⟨b3, hb3⟩ : ∃ z, ciB s 0 3599 = z := ⟨_, rfl⟩
  obtain ⟨b4, hb4⟩ : ∃ z, ciB sl 1 100 = z := ⟨_, rfl⟩
  obtain ⟨R, hR⟩ : ∃ z, ciF l c = z := ⟨_, rfl⟩
  obtain ⟨E, hE⟩ : ∃ z, ceK l ⟨id, c, t, x, y, s, sl⟩ = z := ⟨_, rfl⟩
  rw [hb1] at H1 HCE
  rw [hb2] at H2 HCE
  rw [hb3] at H3 HCE
  rw [hb4] at H4 HCE
  rw [hR] at H5 HCE
  rw [hE] at HCE ⊢
  have HA := Lib.hid (fun W' => cells1 w #[.int .i64 id, .int .i64 c, .int .i64 t, .int .i64 x, .int .i64 y, .int .i64 s, .int .i64 sl] 67 (W := W'))
  have HB0 := Lib.hid (Below.refl (w.alloc (.cells #[.int .i64 id, .int .i64 c, .int .i64 t, .int .i64 x, .int .i64 y, .int .i64 s, .int .i64 sl] 67)).heap.size (w.alloc (.cells #[.int .i64 id, .int .i64 c, .int .i64 t, .int .i64 x, .int .i64 y, .int .i64 s, .int .i64 sl] 67)))
  obtain ⟨Z, hZ⟩ : ∃ Z, w.alloc (.cells #[.int .i64 id, .int .i64 c, .int .i64 t, .int .i64 x, .int .i64 y, .int .i64 s, .int .i64 sl] 67) = Z := ⟨_, rfl⟩
  rw [hZ] at HA HB0
  have HZ := Lib.hid hZ
  clear hZ hb1 hb2 hb3 hb4 hR hE
  have HRD : Hid (∀ W', Below Z.heap.size Z W' → (W'.cell? ⟨w.heap.size, 1, none⟩ = some (.int .i64 c) ∧ W'.cell? ⟨w.heap.size, 2, none⟩ = some (.int .i64 t) ∧ W'.cell? ⟨w.heap.size, 3, none⟩ = some (.int .i64 x) ∧ W'.cell? ⟨w.heap.size, 4, none⟩ = some (.int .i64 y) ∧ W'.cell? ⟨w.heap.size, 5, none⟩ = some (.int .i64 s) ∧ W'.cell? ⟨w.heap.size, 6, none⟩ = some (.int .i64 sl)) ∧ Below w.heap.size w W') := Lib.hid (fun W' h => by
    obtain ⟨z0, _, zb⟩ := HA.out W' h
    exact ⟨⟨cellH z0 1, cellH z0 2, cellH z0 3, cellH z0 4, cellH z0 5, cellH z0 6⟩, zb⟩)
  go_enter Tryz.func101, Tryz.ntmps101
  go_wp2_with fail
  rw [HZ.out]
  refine (H1.out Z).mono ?_
  rintro e w1 ⟨rfl, rfl⟩
  obtain ⟨⟨q1, q2, q3, q4, q5, q6⟩, zb⟩ := HRD.out w1 HB0.out
  have HZB := Lib.hid zb
  clear zb
  cases b1
  · have HN : Hid (E = 1) := Lib.hid (by rw [HCE.out]; rfl)
    go_wp2_with fail
    go_ret
    exact ⟨by rw [HN.out]; rfl, HZB.out⟩
  go_wp2_with fail
  refine (H2.out w1).mono ?_
  rintro e w2 ⟨rfl, hb2⟩
  have HB2 := Lib.hid hb2
  clear q1 q2 q3 q4 q5 q6 hb2
  obtain ⟨⟨q1, q2, q3, q4, q5, q6⟩, zb⟩ := HRD.out w2 HB2.out
  have HZB2 := Lib.hid zb
  clear zb
  cases b2
  · have HN : Hid (E = 1) := Lib.hid (by rw [HCE.out]; rfl)
    go_wp2_with fail
    go_ret
    exact ⟨by rw [HN.out]; rfl, HZB2.out⟩
  go_wp2_with fail
  refine (H3.out w2).mono ?_
  rintro e w3 ⟨rfl, rfl⟩
  cases b3
  · have HN : Hid (E = 1) := Lib.hid (by rw [HCE.out]; rfl)
    go_wp2_with fail
    go_ret
    exact ⟨by rw [HN.out]; rfl, HZB2.out⟩
  go_wp2_with fail
  refine (H4.out w3).mono ?_
  rintro e w4 ⟨rfl, rfl⟩
  cases b4
  · have HN : Hid (E = 1) := Lib.hid (by rw [HCE.out]; rfl)
    go_wp2_with fail
    go_ret
    exact ⟨by rw [HN.out]; rfl, HZB2.out⟩
  go_wp2_with fail
  refine (H5.out w4 HZB2.out).mono ?_
  rintro e w5 ⟨rfl, hb5⟩
  cases R with
  | none =>
    have HN : Hid (E = 5) := Lib.hid (by rw [HCE.out]; rfl)
    have HY := Lib.hid ((HZB2.out.trans (hb5.mono HZB2.out.size)).alloc (Nat.le_trans HZB2.out.size hb5.size) (.cells #[.int .i64 0, .int .i64 0, .int .i64 0, .int .i64 0, .int .i64 0, .int .i64 0, .int .i64 0, .int .i64 0] 93))
    clear hb5
    go_wp2_with fail
    go_ret
    exact ⟨by rw [HN.out]; rfl, HY.out⟩
  | some z =>
    obtain ⟨zi, zx, zy, zf, zt, zl, zh, zd⟩ := z
    have HCE2 : Hid (E = if (x == zx && y == zy) || !ciB t zf zt then 1 else 0) := Lib.hid HCE.out
    have hY := cells1 w5 #[.int .i64 zi, .int .i64 zx, .int .i64 zy, .int .i64 zf, .int .i64 zt, .int .i64 zl, .int .i64 zh, .int .i64 zd] 93 (Below.refl _ _)
    have HBY := Lib.hid (HB2.out.trans ((hb5.trans (hY.2.2.mono hb5.size)).mono HB2.out.size))
    have HQY := Lib.hid hY.1
    obtain ⟨b, hbq⟩ : ∃ y, w5.heap.size = y := ⟨_, rfl⟩
    rw [hbq] at HQY
    obtain ⟨Y, hYY⟩ : ∃ Y, w5.alloc (.cells #[.int .i64 zi, .int .i64 zx, .int .i64 zy, .int .i64 zf, .int .i64 zt, .int .i64 zl, .int .i64 zh, .int .i64 zd] 93) = Y := ⟨_, rfl⟩
    have HYE := Lib.hid hYY
    have HQ2 := Lib.hid HQY.out
    rw [hYY] at HBY HQ2
    clear q1 q2 q3 q4 q5 q6
    obtain ⟨⟨q1, q2, q3, q4, q5, q6⟩, zb⟩ := HRD.out Y HBY.out
    have HZY := Lib.hid zb
    rw [← hYY] at q1 q2 q3 q4 q5 q6
    obtain ⟨b6, hb6⟩ : ∃ z, ciB t zf zt = z := ⟨_, rfl⟩
    have HW := Lib.hid (fun w' => H6.out zf zt w')
    rw [hb6] at HW HCE2
    clear hb6 hY hb5 zb hYY
    cases g1 : (x == zx)
    case false =>
      go_wp2_with fail
      rw [HYE.out]
      refine (HW.out Y).mono ?_
      rintro e w6 ⟨rfl, rfl⟩
      cases b6
      · have HN : Hid (E = 1) := Lib.hid (by rw [HCE2.out]; simp)
        go_wp2_with fail
        go_ret
        exact ⟨by rw [HN.out]; rfl, HZY.out⟩
      · have HN : Hid (E = 0) := Lib.hid (by rw [HCE2.out, g1]; rfl)
        go_wp2_with fail
        go_ret
        exact ⟨by rw [HN.out]; rfl, HZY.out⟩
    case true =>
      cases g2 : (y == zy)
      case false =>
        go_wp2_with fail
        rw [HYE.out]
        refine (HW.out Y).mono ?_
        rintro e w6 ⟨rfl, rfl⟩
        cases b6
        · have HN : Hid (E = 1) := Lib.hid (by rw [HCE2.out]; simp)
          go_wp2_with fail
          go_ret
          exact ⟨by rw [HN.out]; rfl, HZY.out⟩
        · have HN : Hid (E = 0) := Lib.hid (by rw [HCE2.out, g2]; simp)
          go_wp2_with fail
          go_ret
          exact ⟨by rw [HN.out]; rfl, HZY.out⟩
      case true =>
        have HN : Hid (E = 1) := Lib.hid (by rw [HCE2.out, g1, g2]; rfl)
        rw [← HYE.out] at HZY
        go_wp2_with fail
        go_ret
        exact ⟨by rw [HN.out]; rfl, HZY.out⟩
end Go.Proofs.YtebdboacmeafaaaGreat
