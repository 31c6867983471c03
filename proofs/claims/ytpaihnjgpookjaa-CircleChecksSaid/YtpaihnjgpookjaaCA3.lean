/- Package circle: bearingOf, Division; what a bearing is in plain words. -/
import Derived.Test.YtpaihnjgpookjaaCA2
import Derived.Laws.StructEq
import Derived.StillTailTactics
set_option linter.unusedVariables false
set_option linter.unusedSimpArgs false
namespace Go.Proofs.Ytpaihnjgpookjaa
open Go Go.RowKit

theorem plEq (a b c d : Int) (w : World) : (binOp .eql 25 (.agg #[.int .i64 a, .int .i64 b]) (.agg #[.int .i64 c, .int .i64 d])).run Try.prog w = .ok (.bool (a == c && b == d)) w := by
  have u3 := Try.underlying3
  have a3 := Try.isAgg3
  have z3 := Try.sizeOf3
  have hS : Try.prog.underlying 25 = some (.struct (Try.prog.fieldsOf 25)) := by kernel_rfl
  have hp : Try.prog.stoodInHeld 25 = false := by kernel_rfl
  rw [run_eql_struct, show (10000 : Nat) = 9999 + 1 from rfl, run_equalIn_agg w 9999 25 _ _ hS hp]
  simp only [Program.fieldsOf, Try.underlying25]
  go_simp
  by_cases h1 : a = c <;> by_cases h2 : b = d <;> simp [h1, h2]

/-! Bearings. -/
def twD (x y : Int) : Int := max (max x (-x)) (max y (-y))
def twM (x y : Int) : Int :=
  if max y (-y) ≤ x then 450 * y else if max x (-x) ≤ y then 900 * y - 450 * x else if max y (-y) ≤ -x then 1800 * max x (-x) - 450 * y else 2700 * max y (-y) + 450 * x
def twN (x y : Int) : Int := if twM x y < 0 then twM x y + 3600 * twD x y else twM x y
theorem tw_ok {x y : Int} (hx : -48 ≤ x ∧ x ≤ 48) (hy : -48 ≤ y ∧ y ≤ 48) (h : ¬ (x = 0 ∧ y = 0)) : 1 ≤ twD x y ∧ twD x y ≤ 48 ∧ 0 ≤ twN x y ∧ twN x y < 3600 * twD x y ∧ -(450 * twD x y) ≤ twM x y := by
  have hd : 1 ≤ twD x y ∧ twD x y ≤ 48 := by unfold twD; omega
  have hm : -(450 * twD x y) ≤ twM x y ∧ twM x y < 3600 * twD x y := by
    unfold twM twD at *
    split
    · omega
    · split
      · omega
      · split <;> omega
  refine ⟨hd.1, hd.2, ?_, ?_, hm.1⟩
  · unfold twN; split <;> omega
  · unfold twN; split <;> omega
/-- Two different places of the map. -/
def brB (a b c d : Int) : Bool := omB a b && omB c d && !(a == c && b == d)
theorem brB_ok {a b c d : Int} (h : brB a b c d = true) : ((0 ≤ a ∧ a ≤ 48) ∧ 0 ≤ b ∧ b ≤ 48) ∧ ((0 ≤ c ∧ c ≤ 48) ∧ 0 ≤ d ∧ d ≤ 48) ∧ ¬ (c - a = 0 ∧ d - b = 0) := by
  unfold brB at h
  simp only [Bool.and_eq_true, Bool.not_eq_true', om_iff] at h
  obtain ⟨⟨h1, h2⟩, h3⟩ := h
  refine ⟨h1, h2, fun hh => ?_⟩
  rw [show a = c by omega, show b = d by omega] at h3
  simp at h3
def brDn (a b c d : Int) : Int := if brB a b c d = true then twN (c - a) (d - b) / twD (c - a) (d - b) else 0
def brUp (a b c d : Int) : Int := if brB a b c d = true then (twN (c - a) (d - b) + twD (c - a) (d - b) - 1) / twD (c - a) (d - b) else 0
theorem info_br2 : (Try.prog.info? 90).map (·.size) = some 2 := by kernel_rfl
/-- How a vector was turned. -/
def TuR (x y X Y M : Int) : Prop := (M = 0 ∧ X = x ∧ Y = y) ∨ (M = 900 ∧ X = y ∧ Y = -x ∧ ¬ (max y (-y) ≤ x)) ∨ (M = 1800 ∧ X = -x ∧ Y = -y ∧ ¬ (max y (-y) ≤ x) ∧ ¬ (max x (-x) ≤ y)) ∨ (M = 2700 ∧ X = -y ∧ Y = x ∧ ¬ (max y (-y) ≤ x) ∧ ¬ (max x (-x) ≤ y) ∧ ¬ (max y (-y) ≤ -x))
theorem TuR.bd {x y X Y M : Int} (h : TuR x y X Y M) (hx : -48 ≤ x ∧ x ≤ 48) (hy : -48 ≤ y ∧ y ≤ 48) : (-48 ≤ X ∧ X ≤ 48) ∧ (-48 ≤ Y ∧ Y ≤ 48) ∧ 0 ≤ M ∧ M ≤ 2700 := by
  rcases h with ⟨rfl, rfl, rfl⟩ | ⟨rfl, rfl, rfl, _⟩ | ⟨rfl, rfl, rfl, _⟩ | ⟨rfl, rfl, rfl, _⟩ <;> omega
theorem TuR.next {x y X Y M : Int} (h : TuR x y X Y M) (hc : Y > X ∨ -Y > X) : TuR x y Y (-X) (M + 900) ∧ M + 900 ≤ 2700 := by
  rcases h with ⟨rfl, rfl, rfl⟩ | ⟨rfl, rfl, rfl, k1⟩ | ⟨rfl, rfl, rfl, k1, k2⟩ | ⟨rfl, rfl, rfl, k1, k2, k3⟩
  · refine ⟨.inr (.inl ⟨rfl, rfl, rfl, by omega⟩), by omega⟩
  · refine ⟨.inr (.inr (.inl ⟨rfl, rfl, rfl, k1, by omega⟩)), by omega⟩
  · refine ⟨.inr (.inr (.inr ⟨rfl, rfl, by omega, k1, k2, by omega⟩)), by omega⟩
  · omega
theorem TuR.done {x y X Y M : Int} (h : TuR x y X Y M) (hc : ¬ Y > X) (hc2 : ¬ -Y > X) : 450 * Y + M * X = twM x y ∧ X = twD x y := by
  unfold twM twD
  rcases h with ⟨rfl, rfl, rfl⟩ | ⟨rfl, rfl, rfl, k1⟩ | ⟨rfl, rfl, rfl, k1, k2⟩ | ⟨rfl, rfl, rfl, k1, k2, k3⟩
  · rw [if_pos (by omega)]; omega
  · rw [if_neg (by omega), if_pos (by omega)]; omega
  · rw [if_neg (by omega), if_neg (by omega), if_pos (by omega)]; omega
  · rw [if_neg (by omega), if_neg (by omega), if_neg (by omega)]; omega
set_option maxRecDepth 100000 in
set_option maxHeartbeats 4000000 in
theorem bearingOf_any (a b c d : Int) (w : World) : Calls Try.prog 44 #[.agg #[.int .i64 a, .int .i64 b], .agg #[.int .i64 c, .int .i64 d]] w fun e w' => e = .returned (.tuple #[.agg #[.int .i64 (brDn a b c d), .int .i64 (brUp a b c d)], .bool (brB a b c d)]) ∧ Below w.heap.size w w' := by
  have H1 := Lib.hid (fun w' => onMap_any a b w')
  have H2 := Lib.hid (fun w' => onMap_any c d w')
  have HBO := Lib.hid (brB_ok (a := a) (b := b) (c := c) (d := d))
  have HDN : Hid (brDn a b c d = if brB a b c d = true then twN (c - a) (d - b) / twD (c - a) (d - b) else 0) := Lib.hid rfl
  have HUP : Hid (brUp a b c d = if brB a b c d = true then (twN (c - a) (d - b) + twD (c - a) (d - b) - 1) / twD (c - a) (d - b) else 0) := Lib.hid rfl
  have HBB : Hid (brB a b c d = (omB a b && omB c d && !(a == c && b == d))) := Lib.hid rfl
  obtain ⟨b1, hb1⟩ : ∃ z, omB a b = z := ⟨_, rfl⟩
  obtain ⟨b2, hb2⟩ : ∃ z, omB c d = z := ⟨_, rfl⟩
  obtain ⟨b3, hb3⟩ : ∃ z, (a == c && b == d) = z := ⟨_, rfl⟩
  obtain ⟨ok, hok⟩ : ∃ z, brB a b c d = z := ⟨_, rfl⟩
  obtain ⟨dn, hdn⟩ : ∃ z, brDn a b c d = z := ⟨_, rfl⟩
  obtain ⟨up, hup⟩ : ∃ z, brUp a b c d = z := ⟨_, rfl⟩
  rw [hb1] at H1 HBB
  rw [hb2] at H2 HBB
  rw [hb3] at HBB
  have HB3 := Lib.hid hb3
  rw [hdn] at HDN ⊢
  rw [hup] at HUP ⊢
  rw [hok] at HBO HBB HDN HUP ⊢
  clear hb1 hb2 hb3 hok hdn hup
  have HA := Lib.hid (fun W' => cells3 w #[.int .i64 a, .int .i64 b] #[.int .i64 c, .int .i64 d] #[.int .i64 0, .int .i64 0] 25 25 90 (W := W'))
  have HB0 := Lib.hid (Below.refl (((w.alloc (.cells #[.int .i64 a, .int .i64 b] 25)).alloc (.cells #[.int .i64 c, .int .i64 d] 25)).alloc (.cells #[.int .i64 0, .int .i64 0] 90)).heap.size (((w.alloc (.cells #[.int .i64 a, .int .i64 b] 25)).alloc (.cells #[.int .i64 c, .int .i64 d] 25)).alloc (.cells #[.int .i64 0, .int .i64 0] 90)))
  obtain ⟨Z, hZ⟩ : ∃ Z, (((w.alloc (.cells #[.int .i64 a, .int .i64 b] 25)).alloc (.cells #[.int .i64 c, .int .i64 d] 25)).alloc (.cells #[.int .i64 0, .int .i64 0] 90)) = Z := ⟨_, rfl⟩
  rw [hZ] at HA HB0
  have HZ := Lib.hid hZ
  clear hZ
  have HFIN : Hid (∀ W', Below Z.heap.size Z W' → W'.cell? ⟨w.heap.size, 0, none⟩ = some (.int .i64 a) ∧ W'.cell? ⟨w.heap.size, 1, none⟩ = some (.int .i64 b) ∧ W'.cell? ⟨w.heap.size + 1, 0, none⟩ = some (.int .i64 c) ∧ W'.cell? ⟨w.heap.size + 1, 1, none⟩ = some (.int .i64 d) ∧ W'.cell? ⟨w.heap.size + 1 + 1, 0, none⟩ = some (.int .i64 0) ∧ W'.cell? ⟨w.heap.size + 1 + 1, 1, none⟩ = some (.int .i64 0) ∧ (∀ o, W'.frozen? ⟨w.heap.size + 1 + 1, o, none⟩ = false) ∧ w.heap.size + 1 + 1 < W'.heap.size) := Lib.hid (fun W' h => by
    obtain ⟨x1, x2, x3, x4, x5⟩ := HA.out W' h
    exact ⟨cellH x1 0, cellH x1 1, cellH x2 0, cellH x2 1, cellH x3 0, cellH x3 1, freeH x3, x4⟩)
  go_enter Try.func44, Try.ntmps44
  go_wp2_with fail
  rw [HZ.out]
  refine (H1.out Z).mono ?_
  rintro e w1 ⟨rfl, hb⟩
  have HB1 := Lib.hid hb
  obtain ⟨q1, q2, q3, q4, q5, q6, q7, q8⟩ := HFIN.out w1 hb
  clear hb
  cases b1
  · have HOK : Hid (ok = false) := Lib.hid (by rw [HBB.out]; rfl)
    go_wp2_with fail
    obtain ⟨_, _, z0, _, zb⟩ := HA.out w1 HB1.out
    obtain ⟨z1, z2⟩ := set2 z0 zb (by omega) (.int .i64 0) (.int .i64 0)
    refine bodyPost_ret (res_ct Try.results44 _ _ (w.heap.size + 1 + 1) 90 #[.int .i64 0, .int .i64 0] (0, 0) _ rfl z1 Try.underlying90 rfl info_br2) rfl ?_
    exact ⟨by rw [HDN.out, HUP.out, HOK.out]; rfl, z2⟩
  go_wp2_with fail
  refine (H2.out w1).mono ?_
  rintro e w2 ⟨rfl, hb⟩
  have HB2 := Lib.hid (HB1.out.trans (hb.mono HB1.out.size))
  clear hb q1 q2 q3 q4 q5 q6 q7 q8
  obtain ⟨q1, q2, q3, q4, q5, q6, q7, q8⟩ := HFIN.out w2 HB2.out
  cases b2
  · have HOK : Hid (ok = false) := Lib.hid (by rw [HBB.out]; rfl)
    go_wp2_with fail
    obtain ⟨_, _, z0, _, zb⟩ := HA.out w2 HB2.out
    obtain ⟨z1, z2⟩ := set2 z0 zb (by omega) (.int .i64 0) (.int .i64 0)
    refine bodyPost_ret (res_ct Try.results44 _ _ (w.heap.size + 1 + 1) 90 #[.int .i64 0, .int .i64 0] (0, 0) _ rfl z1 Try.underlying90 rfl info_br2) rfl ?_
    exact ⟨by rw [HDN.out, HUP.out, HOK.out]; rfl, z2⟩
  cases b3
  case true =>
    have g3 := HB3.out
    rw [Bool.and_eq_true] at g3
    obtain ⟨g1, g2⟩ := g3
    have HOK : Hid (ok = false) := Lib.hid (by rw [HBB.out]; rfl)
    clear HB3
    go_wp2_with fail
    obtain ⟨_, _, z0, _, zb⟩ := HA.out w2 HB2.out
    obtain ⟨z1, z2⟩ := set2 z0 zb (by omega) (.int .i64 0) (.int .i64 0)
    refine bodyPost_ret (res_ct Try.results44 _ _ (w.heap.size + 1 + 1) 90 #[.int .i64 0, .int .i64 0] (0, 0) _ rfl z1 Try.underlying90 rfl info_br2) rfl ?_
    exact ⟨by rw [HDN.out, HUP.out, HOK.out]; rfl, z2⟩
  have HOK : Hid (ok = true) := Lib.hid (by rw [HBB.out]; rfl)
  obtain ⟨k1, k2, k3⟩ := HBO.out HOK.out
  obtain ⟨x, hx⟩ : ∃ x, c - a = x := ⟨_, rfl⟩
  obtain ⟨y, hy⟩ : ∃ y, d - b = y := ⟨_, rfl⟩
  rw [hx, hy] at HDN HUP
  have hx2 : -48 ≤ x ∧ x ≤ 48 := by omega
  have hy2 : -48 ≤ y ∧ y ≤ 48 := by omega
  have HT := Lib.hid (tw_ok hx2 hy2 (by omega))
  have HXY := Lib.hid (show (-48 ≤ x ∧ x ≤ 48) ∧ -48 ≤ y ∧ y ≤ 48 from ⟨hx2, hy2⟩)
  have e1 : IntKind.i64.wrap x = x := IntWalk.i64_in _ (by omega)
  have e2 : IntKind.i64.wrap y = y := IntWalk.i64_in _ (by omega)
  have HV0 : Hid ((w2.alloc (.cells #[.int .i64 x, .int .i64 y] 25)).heap[w2.heap.size]? = some (Obj.cells #[.int .i64 x, .int .i64 y] 25 (0, 0))) := Lib.hid (heap_alloc_new _ _)
  have HBV := Lib.hid (HB2.out.alloc HB2.out.size (.cells #[.int .i64 x, .int .i64 y] 25))
  obtain ⟨vb, hvb⟩ : ∃ z, w2.heap.size = z := ⟨_, rfl⟩
  have HVB : Hid (w.heap.size + 1 + 1 < vb) := Lib.hid (by omega)
  clear k1 k2 k3 hx2 hy2
  have hcase : ((a == c) = true ∧ (b == d) = false) ∨ (a == c) = false := by
    have g3 := HB3.out
    cases g1 : (a == c)
    · exact .inr rfl
    · rw [g1] at g3; exact .inl ⟨rfl, by simpa using g3⟩
  clear HB3
  rw [hvb] at HV0
  have HV2 : Hid (∀ W, Below Z.heap.size Z W → vb < W.heap.size → W.heap[w.heap.size + 1 + 1]? = some (Obj.cells #[.int .i64 0, .int .i64 0] 90 (0, 0)) ∧ Below w.heap.size w W) := Lib.hid (fun W h _ => by obtain ⟨_, _, x3, _, x5⟩ := HA.out W h; exact ⟨x3, x5⟩)
  have HZV : Hid (Z.heap.size ≤ vb) := Lib.hid (by rw [← hvb]; exact HB2.out.size)
  have HQUO : Hid (∀ n m : Int, 0 ≤ n → 1 ≤ m → n.tdiv m = n / m) := Lib.hid (fun n m h _ => Int.tdiv_eq_ediv_of_nonneg h)
  rcases hcase with ⟨g1, g2⟩ | g1
  all_goals
    go_wp2_with fail
    try clear g2
    clear g1 q1 q2 q3 q4 q5 q6 q7 q8 e1 e2 hx hy hvb
    go_loopw [7] (fun m wr => ∃ (X Y M : Int), m = .int .i64 M ∧ Hid (TuR x y X Y M) ∧ Hid (wr.heap[vb]? = some (Obj.cells #[.int .i64 X, .int .i64 Y] 25 (0, 0))) ∧ Hid (Below Z.heap.size Z wr)) (fun m _ => (2700 - intOf m).toNat)
    case atStart => exact ⟨x, y, 0, rfl, Lib.hid (.inl ⟨rfl, rfl, rfl⟩), HV0, HBV⟩
    case round =>
      obtain ⟨X, Y, M, rfl, hT, hV, hB⟩ := hrel
      obtain ⟨d1, d2, d3, d4⟩ := hT.out.bd HXY.out.1 HXY.out.2
      have q0 := cellH hV.out 0
      have q1 := cellH hV.out 1
      have qf := freeH hV.out
      have hlt := (Array.getElem?_eq_some_iff.1 hV.out).1
      simp only [List.getElem?_toArray, List.getElem?_cons_zero, List.getElem?_cons_succ] at q0 q1
      have e1 : IntKind.i64.wrap (-Y) = -Y := IntWalk.i64_in _ (by omega)
      have e2 : IntKind.i64.wrap (M + 900) = M + 900 := IntWalk.i64_in _ (by omega)
      have HTR := Lib.hid (fun w' => turnedRight_any X Y w' (by omega))
      have HLIM := Lib.hid (show ((-48 ≤ X ∧ X ≤ 48) ∧ -48 ≤ Y ∧ Y ≤ 48) ∧ 0 ≤ M ∧ M ≤ 2700 from ⟨⟨d1, d2⟩, d3, d4⟩)
      have HGO : Hid ((Y > X ∨ -Y > X) → ∀ w', Below wr.heap.size wr w' → ∃ (X' Y' M' : Int), X' = Y ∧ Y' = -X ∧ M' = M + 900 ∧ M + 900 ≤ 2700 ∧ Hid (TuR x y X' Y' M') ∧ Hid (((w'.setCell ⟨vb, 0, none⟩ (.int .i64 X')).setCell ⟨vb, 1, none⟩ (.int .i64 Y')).heap[vb]? = some (Obj.cells #[.int .i64 X', .int .i64 Y'] 25 (0, 0))) ∧ Hid (Below Z.heap.size Z ((w'.setCell ⟨vb, 0, none⟩ (.int .i64 X')).setCell ⟨vb, 1, none⟩ (.int .i64 Y')))) := Lib.hid (fun hc w' hb => by
        obtain ⟨k1, k2⟩ := hT.out.next hc
        have hv' := (hb.block _ hlt).trans hV.out
        exact ⟨Y, -X, M + 900, rfl, rfl, rfl, k2, Lib.hid k1, Lib.hid (heap_same (heap_same hv' 0 _) 1 _), Lib.hid (((hB.out.trans (hb.mono hB.out.size)).setCell (p := ⟨vb, 0, none⟩) HZV.out _).setCell (p := ⟨vb, 1, none⟩) HZV.out _)⟩)
      have HCE : Hid (∀ w', Below wr.heap.size wr w' → w'.cell? ⟨vb, 0, none⟩ = some (.int .i64 X) ∧ w'.cell? ⟨vb, 1, none⟩ = some (.int .i64 Y) ∧ (∀ o, w'.frozen? ⟨vb, o, none⟩ = false)) := Lib.hid (fun w' hb => by
        have hv' := (hb.block _ hlt).trans hV.out
        exact ⟨cellH hv' 0, cellH hv' 1, freeH hv'⟩)
      clear d1 d2 d3 d4
      by_cases hc1 : X < Y
      · go_wp2_with fail
        refine (HTR.out wr).mono ?_
        rintro e w3 ⟨rfl, hb3⟩
        obtain ⟨X', Y', M', rfl, rfl, rfl, hle, k1, k2, k3⟩ := HGO.out (.inl hc1) w3 hb3
        clear q0 q1 qf
        obtain ⟨q0, q1, qf⟩ := HCE.out w3 hb3
        have HLE := Lib.hid hle
        clear hb3 hle
        go_wp2_with fail
        go_roundw
        case rel => exact ⟨_, _, _, rfl, k1, k2, k3⟩
        case measure => have := HLE.out; have := HLIM.out; simp [intOf]; omega
      · by_cases hc2 : X < -Y
        · go_wp2_with fail
          refine (HTR.out wr).mono ?_
          rintro e w3 ⟨rfl, hb3⟩
          obtain ⟨X', Y', M', rfl, rfl, rfl, hle, k1, k2, k3⟩ := HGO.out (.inr hc2) w3 hb3
          clear q0 q1 qf
          obtain ⟨q0, q1, qf⟩ := HCE.out w3 hb3
          have HLE := Lib.hid hle
          clear hb3 hle
          go_wp2_with fail
          go_roundw
          case rel => exact ⟨_, _, _, rfl, k1, k2, k3⟩
          case measure => have := HLE.out; have := HLIM.out; simp [intOf]; omega
        · obtain ⟨f1, f2⟩ := hT.out.done hc1 hc2
          have HF1 := Lib.hid f1
          have HF2 := Lib.hid f2
          obtain ⟨p, hp⟩ : ∃ p, M * X = p := ⟨_, rfl⟩
          rw [hp] at HF1
          have hpb := HT.out
          have hl := HLIM.out
          obtain ⟨al, hal⟩ : ∃ z, 450 * Y + p = z := ⟨_, rfl⟩
          rw [hal] at HF1
          have hmb : al ≤ 172800 ∧ -172800 ≤ al := by
            have h := hpb.2.2.2
            have h2 := HF1.out
            have h3 : twM x y ≤ twN x y := by unfold twN; split <;> omega
            omega
          have e3 : IntKind.i64.wrap (450 * Y) = 450 * Y := IntWalk.i64_in _ (by omega)
          have e4 : IntKind.i64.wrap p = p := IntWalk.i64_in _ (by omega)
          have e5 : IntKind.i64.wrap al = al := IntWalk.i64_in _ (by omega)
          clear f1 f2 hpb hl HGO HTR
          by_cases hneg : al < 0
          · clear hmb
            have HN : Hid (twN x y = al + 3600 * X) := Lib.hid (by unfold twN; rw [← HF1.out, if_pos hneg, ← HF2.out])
            obtain ⟨nn, hnn⟩ : ∃ z, al + 3600 * X = z := ⟨_, rfl⟩
            have hnb := HT.out
            rw [HN.out, ← HF2.out, hnn] at hnb
            obtain ⟨r1, hr1⟩ : ∃ z, nn / X = z := ⟨_, rfl⟩
            obtain ⟨r2, hr2⟩ : ∃ z, (nn + X - 1) / X = z := ⟨_, rfl⟩
            have t1 : nn.tdiv X = r1 := by rw [Int.tdiv_eq_ediv_of_nonneg (by omega)]; exact hr1
            have t2 : (nn + X - 1).tdiv X = r2 := by rw [Int.tdiv_eq_ediv_of_nonneg (by omega)]; exact hr2
            have HR : Hid (dn = r1 ∧ up = r2) := Lib.hid (by
              rw [HDN.out, HUP.out, HOK.out, if_pos rfl, if_pos rfl, HN.out, ← HF2.out, hnn, hr1, hr2]; exact ⟨rfl, rfl⟩)
            have b1 : 0 ≤ r1 ∧ r1 ≤ 172800 := by rw [← hr1]; exact ⟨Int.ediv_nonneg (by omega) (by omega), Int.le_trans (Int.ediv_le_self _ (by omega)) (by omega)⟩
            have b2 : 0 ≤ r2 ∧ r2 ≤ 172900 := by rw [← hr2]; exact ⟨Int.ediv_nonneg (by omega) (by omega), Int.le_trans (Int.ediv_le_self _ (by omega)) (by omega)⟩
            have v1 : IntKind.i64.wrap r1 = r1 := IntWalk.i64_in _ (by omega)
            have v2 : IntKind.i64.wrap r2 = r2 := IntWalk.i64_in _ (by omega)
            have v3 : IntKind.i64.wrap (nn + X) = nn + X := IntWalk.i64_in _ (by omega)
            have v4 : IntKind.i64.wrap (nn + X - 1) = nn + X - 1 := IntWalk.i64_in _ (by omega)
            have v5 : IntKind.i64.wrap nn = nn := IntWalk.i64_in _ (by omega)
            have v6 : IntKind.i64.wrap (3600 * X) = 3600 * X := IntWalk.i64_in _ (by omega)
            have hX0 : X ≠ 0 := by omega
            have hX0' : (X == 0) = false := by simpa using hX0
            obtain ⟨c3, cb⟩ := HV2.out wr hB.out hlt
            have HRES := Lib.hid c3
            have HBW := Lib.hid cb
            have s0 := cellH (w := wr.drew) c3 0
            have s1 := cellH (w := wr.drew) c3 1
            have sf := freeH (w := wr.drew) c3
            simp only [List.getElem?_toArray, List.getElem?_cons_zero, List.getElem?_cons_succ] at s0 s1
            clear hr1 hr2 b1 b2 hnb c3 cb
            go_wp2_with fail
            go_still_tail 13, (by kernel_rfl)
            change wpList _ _ _ _ _ wr.drew
            obtain ⟨Wd, hWd⟩ : ∃ X, wr.drew = X := ⟨_, rfl⟩
            rw [hWd] at s0 s1 sf ⊢
            have HWD := Lib.hid hWd
            clear hWd
            go_wp2_with fail
            obtain ⟨z1, z2⟩ := set2 (w := w) (W := Wd) (by rw [← HWD.out]; exact HRES.out) (by rw [← HWD.out]; exact HBW.out.drew) (by omega) (.int .i64 r1) (.int .i64 r2)
            refine bodyPost_ret (res_ct Try.results44 _ _ (w.heap.size + 1 + 1) 90 #[.int .i64 r1, .int .i64 r2] (0, 0) _ rfl z1 Try.underlying90 rfl info_br2) rfl ?_
            exact ⟨by rw [HR.out.1, HR.out.2, HOK.out]; rfl, z2⟩
          · clear hmb
            have HN : Hid (twN x y = al) := Lib.hid (by unfold twN; rw [← HF1.out, if_neg hneg])
            obtain ⟨nn, hnn⟩ : ∃ z, al = z := ⟨_, rfl⟩
            have hnb := HT.out
            rw [HN.out, ← HF2.out, hnn] at hnb
            obtain ⟨r1, hr1⟩ : ∃ z, nn / X = z := ⟨_, rfl⟩
            obtain ⟨r2, hr2⟩ : ∃ z, (nn + X - 1) / X = z := ⟨_, rfl⟩
            have t1 : nn.tdiv X = r1 := by rw [Int.tdiv_eq_ediv_of_nonneg (by omega)]; exact hr1
            have t2 : (nn + X - 1).tdiv X = r2 := by rw [Int.tdiv_eq_ediv_of_nonneg (by omega)]; exact hr2
            have HR : Hid (dn = r1 ∧ up = r2) := Lib.hid (by
              rw [HDN.out, HUP.out, HOK.out, if_pos rfl, if_pos rfl, HN.out, ← HF2.out, hnn, hr1, hr2]; exact ⟨rfl, rfl⟩)
            have b1 : 0 ≤ r1 ∧ r1 ≤ 172800 := by rw [← hr1]; exact ⟨Int.ediv_nonneg (by omega) (by omega), Int.le_trans (Int.ediv_le_self _ (by omega)) (by omega)⟩
            have b2 : 0 ≤ r2 ∧ r2 ≤ 172900 := by rw [← hr2]; exact ⟨Int.ediv_nonneg (by omega) (by omega), Int.le_trans (Int.ediv_le_self _ (by omega)) (by omega)⟩
            have v1 : IntKind.i64.wrap r1 = r1 := IntWalk.i64_in _ (by omega)
            have v2 : IntKind.i64.wrap r2 = r2 := IntWalk.i64_in _ (by omega)
            have v3 : IntKind.i64.wrap (nn + X) = nn + X := IntWalk.i64_in _ (by omega)
            have v4 : IntKind.i64.wrap (nn + X - 1) = nn + X - 1 := IntWalk.i64_in _ (by omega)
            have v5 : IntKind.i64.wrap nn = nn := IntWalk.i64_in _ (by omega)
            have v6 : IntKind.i64.wrap (3600 * X) = 3600 * X := IntWalk.i64_in _ (by omega)
            have hX0 : X ≠ 0 := by omega
            have hX0' : (X == 0) = false := by simpa using hX0
            obtain ⟨c3, cb⟩ := HV2.out wr hB.out hlt
            have HRES := Lib.hid c3
            have HBW := Lib.hid cb
            have s0 := cellH (w := wr.drew) c3 0
            have s1 := cellH (w := wr.drew) c3 1
            have sf := freeH (w := wr.drew) c3
            simp only [List.getElem?_toArray, List.getElem?_cons_zero, List.getElem?_cons_succ] at s0 s1
            clear hr1 hr2 b1 b2 hnb c3 cb
            go_wp2_with fail
            go_still_tail 13, (by kernel_rfl)
            change wpList _ _ _ _ _ wr.drew
            obtain ⟨Wd, hWd⟩ : ∃ X, wr.drew = X := ⟨_, rfl⟩
            rw [hWd] at s0 s1 sf ⊢
            have HWD := Lib.hid hWd
            clear hWd
            go_wp2_with fail
            obtain ⟨z1, z2⟩ := set2 (w := w) (W := Wd) (by rw [← HWD.out]; exact HRES.out) (by rw [← HWD.out]; exact HBW.out.drew) (by omega) (.int .i64 r1) (.int .i64 r2)
            refine bodyPost_ret (res_ct Try.results44 _ _ (w.heap.size + 1 + 1) 90 #[.int .i64 r1, .int .i64 r2] (0, 0) _ rfl z1 Try.underlying90 rfl info_br2) rfl ?_
            exact ⟨by rw [HR.out.1, HR.out.2, HOK.out]; rfl, z2⟩
end Go.Proofs.Ytpaihnjgpookjaa
