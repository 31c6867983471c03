/- Merged: CA5, CA6, CA7, CA8. -/
import Derived.Test.YtebdboacmeafaaaGreatCAA
import Derived.Test.YtebdboacmeafaaaGreatHIA
/- Package circle: Opening, validWedge, Lies, Widen. -/
set_option linter.unusedVariables false
set_option linter.unusedSimpArgs false
namespace Go.Proofs.YtebdboacmeafaaaGreat
open Go Go.RowKit

theorem upC {P : Program} {f : FuncId} {args : Array Value} {v : Value} {Z : World} (h : ∀ w, Calls P f args w fun e w' => e = .returned v ∧ Below w.heap.size w w') : ∀ w', Below Z.heap.size Z w' → Calls P f args w' fun e w'' => e = .returned v ∧ Below Z.heap.size Z w'' :=
  fun w' h' => (h w').mono fun e w'' ⟨he, hh⟩ => ⟨he, h'.trans (hh.mono h'.size)⟩
theorem upQ {P : Program} {f : FuncId} {args : Array Value} {v : Value} {Z : World} (h : ∀ w, Calls P f args w fun e w' => e = .returned v ∧ w' = w) : ∀ w', Below Z.heap.size Z w' → Calls P f args w' fun e w'' => e = .returned v ∧ Below Z.heap.size Z w'' :=
  fun w' h' => (h w').mono fun e w'' ⟨he, hh⟩ => ⟨he, hh ▸ h'⟩
/-- The opening of a wedge. -/
def opI (f t : Int) : Int := if ciB f 0 3599 && ciB t 0 3599 then (t - f) % 3600 else -1
def vwB (f t : Int) : Bool := ciB (opI f t) 0 900
theorem opI_bd (f t : Int) : -1 ≤ opI f t ∧ opI f t < 3600 := by unfold opI; split <;> omega
theorem vw_ok {f t : Int} (h : vwB f t = true) : (0 ≤ f ∧ f ≤ 3599) ∧ (0 ≤ t ∧ t ≤ 3599) ∧ opI f t = (t - f) % 3600 ∧ 0 ≤ opI f t ∧ opI f t ≤ 900 := by
  unfold vwB at h
  rw [ci_iff] at h
  unfold opI at *
  split at h
  · rename_i hh
    rw [if_pos hh]
    rw [Bool.and_eq_true, ci_iff, ci_iff] at hh
    exact ⟨hh.1, hh.2, rfl, h⟩
  · omega
set_option maxRecDepth 100000 in
theorem Opening_any (f t : Int) (w : World) : Calls Tryz.prog 129 #[.agg #[.int .i64 f, .int .i64 t]] w fun e w' => e = .returned (.int .i64 (opI f t)) ∧ Below w.heap.size w w' := by
  have HB := Lib.hid ((Below.refl w.heap.size w).alloc (Nat.le_refl _) (.cells #[.int .i64 f, .int .i64 t] 77))
  have H1 := Lib.hid (fun w' => validDivision_any f w')
  have H2 := Lib.hid (fun w' => validDivision_any t w')
  have HO : Hid (opI f t = if ciB f 0 3599 && ciB t 0 3599 then (t - f) % 3600 else -1) := Lib.hid rfl
  obtain ⟨b1, hb1⟩ : ∃ z, ciB f 0 3599 = z := ⟨_, rfl⟩
  obtain ⟨b2, hb2⟩ : ∃ z, ciB t 0 3599 = z := ⟨_, rfl⟩
  obtain ⟨o, ho⟩ : ∃ z, opI f t = z := ⟨_, rfl⟩
  rw [hb1] at H1 HO
  rw [hb2] at H2 HO
  rw [ho] at HO ⊢
  have HB1 := Lib.hid hb1
  have HB2 := Lib.hid hb2
  clear hb1 hb2 ho
  go_enter Tryz.func129, Tryz.ntmps129
  go_wp2_with fail
  refine (H1.out _).mono ?_
  rintro e w1 ⟨rfl, rfl⟩
  cases b1
  · go_wp2_with fail
    go_ret
    exact ⟨by rw [HO.out]; rfl, HB.out⟩
  go_wp2_with fail
  refine (H2.out _).mono ?_
  rintro e w1 ⟨rfl, rfl⟩
  cases b2
  · go_wp2_with fail
    go_ret
    exact ⟨by rw [HO.out]; rfl, HB.out⟩
  have h1 := ci_iff.1 HB1.out
  have h2 := ci_iff.1 HB2.out
  have e1 : IntKind.i64.wrap (t - f) = t - f := IntWalk.i64_in _ (by omega)
  have HT := Lib.hid (fun w' => qturn_any (t - f) w')
  have HO2 : Hid ((t - f) % 3600 = o) := Lib.hid (by rw [HO.out]; rfl)
  rw [HO2.out] at HT
  clear h1 h2
  go_wp2_with fail
  refine (HT.out _).mono ?_
  rintro e w1 ⟨rfl, rfl⟩
  go_wp2_with fail
  go_ret
  exact ⟨rfl, HB.out⟩
set_option maxRecDepth 100000 in
theorem validWedge_any (f t : Int) (w : World) : Calls Tryz.prog 95 #[.agg #[.int .i64 f, .int .i64 t]] w fun e w' => e = .returned (.bool (vwB f t)) ∧ Below w.heap.size w w' := by
  have HB := Lib.hid ((Below.refl w.heap.size w).alloc (Nat.le_refl _) (.cells #[.int .i64 f, .int .i64 t] 77))
  have H1 := Lib.hid (fun w' => Opening_any f t w')
  have H2 := Lib.hid (fun w' => qwithin_any (opI f t) 0 900 w')
  unfold vwB
  obtain ⟨o, ho⟩ : ∃ z, opI f t = z := ⟨_, rfl⟩
  rw [ho] at H1 H2 ⊢
  obtain ⟨b, hb⟩ : ∃ z, ciB o 0 900 = z := ⟨_, rfl⟩
  rw [hb] at H2 ⊢
  clear ho hb
  go_enter Tryz.func95, Tryz.ntmps95
  go_wp2_with fail
  refine (H1.out _).mono ?_
  rintro e w1 ⟨rfl, hb⟩
  have HB1 := Lib.hid (HB.out.trans (hb.mono HB.out.size))
  clear hb
  go_wp2_with fail
  refine (H2.out _).mono ?_
  rintro e w2 ⟨rfl, rfl⟩
  go_wp2_with fail
  go_ret
  exact ⟨rfl, HB1.out⟩
/-- A place lies in a wedge. -/
def lsB (f t a b c d : Int) : Bool := brB a b c d && vwB f t && decide ((brDn a b c d - f) % 3600 ≤ opI f t) && decide ((brUp a b c d - f) % 3600 ≤ opI f t)
theorem br_bd (a b c d : Int) : (0 ≤ brDn a b c d ∧ brDn a b c d ≤ 172900) ∧ 0 ≤ brUp a b c d ∧ brUp a b c d ≤ 172900 := by
  unfold brDn brUp
  by_cases h : brB a b c d = true
  · rw [if_pos h, if_pos h]
    obtain ⟨k1, k2, k3⟩ := brB_ok h
    obtain ⟨j1, j2, j3, j4, _⟩ := tw_ok (x := c - a) (y := d - b) (by omega) (by omega) k3
    exact ⟨⟨Int.ediv_nonneg (by omega) (by omega), Int.le_trans (Int.ediv_le_self _ (by omega)) (by omega)⟩, Int.ediv_nonneg (by omega) (by omega), Int.le_trans (Int.ediv_le_self _ (by omega)) (by omega)⟩
  · rw [if_neg h, if_neg h]; omega
end Go.Proofs.YtebdboacmeafaaaGreat
/- Package circle: least, greatest, leftOf, Widen, Halves. -/
set_option linter.unusedVariables false
set_option linter.unusedSimpArgs false
namespace Go.Proofs.YtebdboacmeafaaaGreat
open Go Go.RowKit

def minL (n : Int) (l : List Int) : Int := l.foldl min n
def maxL (n : Int) (l : List Int) : Int := l.foldl max n
set_option maxRecDepth 100000 in
set_option maxHeartbeats 1000000 in
theorem least_any (n : Int) (v : Value) (l : List Int) (w : World) (hv : INRow w v l) (hl : l.length ≤ 1000000) :
    Calls Tryz.prog 114 #[.int .i64 n, v] w fun e w' => e = .returned (.int .i64 (minL n l)) ∧ w' = w := by
  obtain ⟨a, cap, rfl, hc⟩ := hv.form
  have HC := Lib.hid hc
  have HL : Hid (∀ k m, k < l.length → min (m : Int) (l.getD k 0) = m → True) := Lib.hid (fun _ _ _ _ => trivial)
  clear hc hv HL
  go_enter Tryz.func114, Tryz.ntmps114
  go_wp2_with fail
  go_loopw [0, 6, 9] (fun x y z wr => ∃ (k : Nat) (m : Int) (o : Value), k ≤ l.length ∧ x = .int .i64 m ∧ y = o ∧ z = .int .i64 k ∧ Hid (m = minL n (l.take k)) ∧ wr = w) (fun _ _ z _ => l.length - (intOf z).toNat)
  case atStart => exact ⟨0, n, _, Nat.zero_le _, rfl, rfl, rfl, Lib.hid rfl, rfl⟩
  case round =>
    obtain ⟨k, m, o, hk, rfl, rfl, rfl, hM, rfl⟩ := hrel
    by_cases hkl : k < l.length
    · obtain ⟨b, off, rfl, hb, c0⟩ := HC.out k hkl
      have hki : (k : Int) < l.length := by omega
      have hk0 : (0 : Int) ≤ k := by omega
      have HN : Hid (minL n (l.take (k + 1)) = min m (l.getD k 0)) := Lib.hid (by
        rw [List.take_succ_eq_append_getElem hkl, hM.out, List.getD_eq_getElem?_getD, List.getElem?_eq_getElem hkl]
        unfold minL; rw [List.foldl_append]; rfl)
      obtain ⟨x, hx⟩ : ∃ x, l.getD k 0 = x := ⟨_, rfl⟩
      rw [hx] at c0 HN
      clear hx
      go_wp2_with fail
      go_roundw
      case rel => exact ⟨k + 1, _, _, by omega, rfl, rfl, by go_num, Lib.hid HN.out.symm, by first | rfl | trivial⟩
      case measure => simp [intOf]; omega
    · obtain rfl : k = l.length := by omega
      have HN : Hid (m = minL n l) := Lib.hid (by rw [hM.out, List.take_length])
      go_wp2_with fail
      go_ret
      exact ⟨by rw [← HN.out]; rfl, rfl⟩
set_option maxRecDepth 100000 in
set_option maxHeartbeats 1000000 in
theorem greatest_any (n : Int) (v : Value) (l : List Int) (w : World) (hv : INRow w v l) (hl : l.length ≤ 1000000) :
    Calls Tryz.prog 76 #[.int .i64 n, v] w fun e w' => e = .returned (.int .i64 (maxL n l)) ∧ w' = w := by
  obtain ⟨a, cap, rfl, hc⟩ := hv.form
  have HC := Lib.hid hc
  have HL : Hid (∀ k m, k < l.length → max (m : Int) (l.getD k 0) = m → True) := Lib.hid (fun _ _ _ _ => trivial)
  clear hc hv HL
  go_enter Tryz.func76, Tryz.ntmps76
  go_wp2_with fail
  go_loopw [0, 6, 9] (fun x y z wr => ∃ (k : Nat) (m : Int) (o : Value), k ≤ l.length ∧ x = .int .i64 m ∧ y = o ∧ z = .int .i64 k ∧ Hid (m = maxL n (l.take k)) ∧ wr = w) (fun _ _ z _ => l.length - (intOf z).toNat)
  case atStart => exact ⟨0, n, _, Nat.zero_le _, rfl, rfl, rfl, Lib.hid rfl, rfl⟩
  case round =>
    obtain ⟨k, m, o, hk, rfl, rfl, rfl, hM, rfl⟩ := hrel
    by_cases hkl : k < l.length
    · obtain ⟨b, off, rfl, hb, c0⟩ := HC.out k hkl
      have hki : (k : Int) < l.length := by omega
      have hk0 : (0 : Int) ≤ k := by omega
      have HN : Hid (maxL n (l.take (k + 1)) = max m (l.getD k 0)) := Lib.hid (by
        rw [List.take_succ_eq_append_getElem hkl, hM.out, List.getD_eq_getElem?_getD, List.getElem?_eq_getElem hkl]
        unfold maxL; rw [List.foldl_append]; rfl)
      obtain ⟨x, hx⟩ : ∃ x, l.getD k 0 = x := ⟨_, rfl⟩
      rw [hx] at c0 HN
      clear hx
      go_wp2_with fail
      go_roundw
      case rel => exact ⟨k + 1, _, _, by omega, rfl, rfl, by go_num, Lib.hid HN.out.symm, by first | rfl | trivial⟩
      case measure => simp [intOf]; omega
    · obtain rfl : k = l.length := by omega
      have HN : Hid (m = maxL n l) := Lib.hid (by rw [hM.out, List.take_length])
      go_wp2_with fail
      go_ret
      exact ⟨by rw [← HN.out]; rfl, rfl⟩
/-! leftOf. -/
theorem info_hf3 : (Tryz.prog.info? 82).map (·.size) = some 3 := by kernel_rfl
theorem mul_cc {a b : Int} (ha : -450 ≤ a ∧ a ≤ 450) (hb : 0 ≤ b ∧ b ≤ 48) : -21600 ≤ a * b ∧ a * b ≤ 21600 := by
  have h1 := Int.mul_nonneg (show 0 ≤ a + 450 by omega) hb.1
  have h2 := Int.mul_nonneg (show 0 ≤ 450 - a by omega) hb.1
  rw [Int.add_mul] at h1
  rw [Int.sub_mul] at h2
  omega
set_option maxRecDepth 100000 in
set_option maxHeartbeats 1000000 in
theorem leftOf_any (vx vy a b : Int) (w : World) (hx : -450 ≤ vx ∧ vx ≤ 450) (hy : -450 ≤ vy ∧ vy ≤ 450) (ha : 0 ≤ a ∧ a ≤ 48) (hb : 0 ≤ b ∧ b ≤ 48) :
    Calls Tryz.prog 97 #[.agg #[.int .i64 vx, .int .i64 vy], .agg #[.int .i64 a, .int .i64 b]] w fun e w' => e = .returned (.agg #[.int .i64 vy, .int .i64 (-vx), .int .i64 (vy * a - vx * b)]) ∧ Below w.heap.size w w' := by
  have h1 := mul_cc hy ha
  have h2 := mul_cc hx hb
  obtain ⟨p, hp⟩ : ∃ z, vy * a = z := ⟨_, rfl⟩
  obtain ⟨q, hq⟩ : ∃ z, vx * b = z := ⟨_, rfl⟩
  rw [hp] at h1 ⊢
  rw [hq] at h2 ⊢
  have HX := Lib.hid (cells3 w #[.int .i64 vx, .int .i64 vy] #[.int .i64 a, .int .i64 b] #[.int .i64 vy, .int .i64 (-vx), .int .i64 (p - q)] 65 65 82 (Below.refl _ _))
  have e1 : IntKind.i64.wrap p = p := IntWalk.i64_in _ (by omega)
  have e2 : IntKind.i64.wrap q = q := IntWalk.i64_in _ (by omega)
  have e3 : IntKind.i64.wrap (p - q) = p - q := IntWalk.i64_in _ (by omega)
  have e4 : IntKind.i64.wrap (-vx) = -vx := IntWalk.i64_in _ (by omega)
  clear h1 h2 hx hy ha hb
  go_enter Tryz.func97, Tryz.ntmps97
  go_wp2_with fail
  refine bodyPost_ret (results_cell_row Tryz.results97 _ _ (w.heap.size + 1 + 1) 82 #[.int .i64 vy, .int .i64 (-vx), .int .i64 (p - q)] (0, 0) _ rfl HX.out.2.2.1 Tryz.underlying82 rfl info_hf3) rfl ?_
  exact ⟨rfl, HX.out.2.2.2.2⟩
/-! Widen. -/
def wdB (f t n : Int) : Bool := vwB f t && decide (0 ≤ n) && decide (n ≤ (900 - opI f t) / 2)
def wdF (f t n : Int) : Int := if wdB f t n = true then (f - n) % 3600 else 0
def wdT (f t n : Int) : Int := if wdB f t n = true then (t + n) % 3600 else 0
theorem info_we2 : (Tryz.prog.info? 77).map (·.size) = some 2 := by kernel_rfl
end Go.Proofs.YtebdboacmeafaaaGreat
/- Package circle: Halves. -/
set_option linter.unusedVariables false
set_option linter.unusedSimpArgs false
namespace Go.Proofs.YtebdboacmeafaaaGreat
open Go Go.RowKit

theorem vc_bd (n : Int) : (-450 ≤ vcX n ∧ vcX n ≤ 450) ∧ -450 ≤ vcY n ∧ vcY n ≤ 450 := by
  have h1 := Int.emod_nonneg (n + 450) (show (3600 : Int) ≠ 0 by decide)
  have h2 := Int.emod_lt_of_pos (n + 450) (show (0 : Int) < 3600 by decide)
  unfold vcX vcY
  generalize (n + 450) % 3600 = m at *
  refine ⟨?_, ?_⟩
  · split
    · omega
    · split
      · omega
      · split <;> omega
  · split
    · omega
    · split
      · omega
      · split <;> omega
/-! Halves. -/
def hvB (f t a b : Int) : Bool := vwB f t && !(f == t) && omB a b
/-- The two half-planes of a wedge. -/
def hvV (f t a b : Int) : Value :=
  if hvB f t a b = true then .agg #[.int .i64 (vcY f), .int .i64 (-vcX f), .int .i64 (vcY f * a - vcX f * b), .int .i64 (-vcY t), .int .i64 (vcX t), .int .i64 (-vcY t * a - -vcX t * b)]
  else .agg #[.int .i64 0, .int .i64 0, .int .i64 0, .int .i64 0, .int .i64 0, .int .i64 0]
theorem info_h26 : (Tryz.prog.info? 83).map (·.size) = some 6 := by kernel_rfl
theorem set6 {w W : World} {q : Nat} {t : TypeId} {x1 x2 x3 x4 x5 x6 : Value} (h : W.heap[q]? = some (Obj.cells #[x1, x2, x3, x4, x5, x6] t (0, 0))) (hb : Below w.heap.size w W) (hq : w.heap.size ≤ q) (a b c d e f : Value) :
    ((((((W.setCell ⟨q, 0, none⟩ a).setCell ⟨q, 1, none⟩ b).setCell ⟨q, 2, none⟩ c).setCell ⟨q, 3, none⟩ d).setCell ⟨q, 4, none⟩ e).setCell ⟨q, 5, none⟩ f).heap[q]? = some (Obj.cells #[a, b, c, d, e, f] t (0, 0)) ∧ Below w.heap.size w ((((((W.setCell ⟨q, 0, none⟩ a).setCell ⟨q, 1, none⟩ b).setCell ⟨q, 2, none⟩ c).setCell ⟨q, 3, none⟩ d).setCell ⟨q, 4, none⟩ e).setCell ⟨q, 5, none⟩ f) :=
  ⟨heap_same (heap_same (heap_same (heap_same (heap_same (heap_same h 0 _) 1 _) 2 _) 3 _) 4 _) 5 _, (((((hb.setCell (p := ⟨q, 0, none⟩) hq _).setCell (p := ⟨q, 1, none⟩) hq _).setCell (p := ⟨q, 2, none⟩) hq _).setCell (p := ⟨q, 3, none⟩) hq _).setCell (p := ⟨q, 4, none⟩) hq _).setCell (p := ⟨q, 5, none⟩) hq _⟩
set_option maxRecDepth 100000 in
set_option maxHeartbeats 4000000 in
theorem Halves_any (f t a b : Int) (w : World) : Calls Tryz.prog 35 #[.agg #[.int .i64 f, .int .i64 t], .agg #[.int .i64 a, .int .i64 b]] w fun e w' => e = .returned (.tuple #[hvV f t a b, .bool (hvB f t a b)]) ∧ Below w.heap.size w w' := by
  have H1 := Lib.hid (fun w' => validWedge_any f t w')
  have H2 := Lib.hid (fun w' => onMap_any a b w')
  have H3 := Lib.hid (fun w' => Vector_any t w')
  have H4 := Lib.hid (fun w' => Vector_any f w')
  have HVF := Lib.hid (vc_bd f)
  have HVT := Lib.hid (vc_bd t)
  have HOM := Lib.hid (@om_iff a b)
  have HBB : Hid (hvB f t a b = (vwB f t && !(f == t) && omB a b)) := Lib.hid rfl
  have HV : Hid (hvV f t a b = _) := Lib.hid (hvV.eq_1 f t a b)
  obtain ⟨vw, hvw⟩ : ∃ z, vwB f t = z := ⟨_, rfl⟩
  obtain ⟨om, hom⟩ : ∃ z, omB a b = z := ⟨_, rfl⟩
  obtain ⟨B, hB⟩ : ∃ z, hvB f t a b = z := ⟨_, rfl⟩
  obtain ⟨V, hV⟩ : ∃ z, hvV f t a b = z := ⟨_, rfl⟩
  obtain ⟨fx, hfx⟩ : ∃ z, vcX f = z := ⟨_, rfl⟩
  obtain ⟨fy, hfy⟩ : ∃ z, vcY f = z := ⟨_, rfl⟩
  obtain ⟨tx, htx⟩ : ∃ z, vcX t = z := ⟨_, rfl⟩
  obtain ⟨ty, hty⟩ : ∃ z, vcY t = z := ⟨_, rfl⟩
  rw [hvw] at H1 HBB
  rw [hom] at H2 HBB HOM
  rw [hB] at HBB HV ⊢
  rw [hV] at HV ⊢
  rw [htx, hty] at H3 HVT
  rw [hfx, hfy] at H4 HVF
  rw [hfx, hfy, htx, hty] at HV
  have HA := Lib.hid (fun W' => cells3 w #[.int .i64 f, .int .i64 t] #[.int .i64 a, .int .i64 b] #[.int .i64 0, .int .i64 0, .int .i64 0, .int .i64 0, .int .i64 0, .int .i64 0] 77 65 83 (W := W'))
  have HB0 := Lib.hid (Below.refl (((w.alloc (.cells #[.int .i64 f, .int .i64 t] 77)).alloc (.cells #[.int .i64 a, .int .i64 b] 65)).alloc (.cells #[.int .i64 0, .int .i64 0, .int .i64 0, .int .i64 0, .int .i64 0, .int .i64 0] 83)).heap.size (((w.alloc (.cells #[.int .i64 f, .int .i64 t] 77)).alloc (.cells #[.int .i64 a, .int .i64 b] 65)).alloc (.cells #[.int .i64 0, .int .i64 0, .int .i64 0, .int .i64 0, .int .i64 0, .int .i64 0] 83)))
  obtain ⟨Z, hZ⟩ : ∃ Z, (((w.alloc (.cells #[.int .i64 f, .int .i64 t] 77)).alloc (.cells #[.int .i64 a, .int .i64 b] 65)).alloc (.cells #[.int .i64 0, .int .i64 0, .int .i64 0, .int .i64 0, .int .i64 0, .int .i64 0] 83)) = Z := ⟨_, rfl⟩
  rw [hZ] at HA HB0
  have HZ := Lib.hid hZ
  clear hZ hvw hom hB hV hfx hfy htx hty
  have HRD : Hid (∀ W', Below Z.heap.size Z W' → (W'.cell? ⟨w.heap.size, 0, none⟩ = some (.int .i64 f) ∧ W'.cell? ⟨w.heap.size, 1, none⟩ = some (.int .i64 t)) ∧ (W'.cell? ⟨w.heap.size + 1, 0, none⟩ = some (.int .i64 a) ∧ W'.cell? ⟨w.heap.size + 1, 1, none⟩ = some (.int .i64 b)) ∧ (W'.cell? ⟨w.heap.size + 1 + 1, 0, none⟩ = some (.int .i64 0) ∧ W'.cell? ⟨w.heap.size + 1 + 1, 1, none⟩ = some (.int .i64 0) ∧ W'.cell? ⟨w.heap.size + 1 + 1, 2, none⟩ = some (.int .i64 0) ∧ W'.cell? ⟨w.heap.size + 1 + 1, 3, none⟩ = some (.int .i64 0) ∧ W'.cell? ⟨w.heap.size + 1 + 1, 4, none⟩ = some (.int .i64 0) ∧ W'.cell? ⟨w.heap.size + 1 + 1, 5, none⟩ = some (.int .i64 0)) ∧ (∀ o, W'.frozen? ⟨w.heap.size + 1 + 1, o, none⟩ = false)) := Lib.hid (fun W' h => by
    obtain ⟨x1, x2, x3, _⟩ := HA.out W' h
    exact ⟨⟨cellH x1 0, cellH x1 1⟩, ⟨cellH x2 0, cellH x2 1⟩, ⟨cellH x3 0, cellH x3 1, cellH x3 2, cellH x3 3, cellH x3 4, cellH x3 5⟩, freeH x3⟩)
  go_enter Tryz.func35, Tryz.ntmps35
  go_wp2_with fail
  rw [HZ.out]
  refine (H1.out Z).mono ?_
  rintro e w1 ⟨rfl, hb⟩
  have HB1 := Lib.hid hb
  obtain ⟨⟨q0, q1⟩, ⟨p0, p1⟩, ⟨r0, r1, r2, r3, r4, r5⟩, rf⟩ := HRD.out w1 hb
  clear hb
  cases vw
  · have HN : Hid (B = false) := Lib.hid (by rw [HBB.out]; rfl)
    go_wp2_with fail
    obtain ⟨_, _, z0, _, zb⟩ := HA.out w1 HB1.out
    obtain ⟨z1, z2⟩ := set6 z0 zb (by omega) (.int .i64 0) (.int .i64 0) (.int .i64 0) (.int .i64 0) (.int .i64 0) (.int .i64 0)
    refine bodyPost_ret (res_ct Tryz.results35 _ _ (w.heap.size + 1 + 1) 83 #[.int .i64 0, .int .i64 0, .int .i64 0, .int .i64 0, .int .i64 0, .int .i64 0] (0, 0) _ rfl z1 Tryz.underlying83 rfl info_h26) rfl ?_
    exact ⟨by rw [HV.out, HN.out]; rfl, z2⟩
  by_cases hft : f = t
  · have HN : Hid (B = false) := Lib.hid (by rw [HBB.out, hft]; simp)
    have gft : (f == t) = true := by simpa using hft
    clear hft
    go_wp2_with fail
    obtain ⟨_, _, z0, _, zb⟩ := HA.out w1 HB1.out
    obtain ⟨z1, z2⟩ := set6 z0 zb (by omega) (.int .i64 0) (.int .i64 0) (.int .i64 0) (.int .i64 0) (.int .i64 0) (.int .i64 0)
    refine bodyPost_ret (res_ct Tryz.results35 _ _ (w.heap.size + 1 + 1) 83 #[.int .i64 0, .int .i64 0, .int .i64 0, .int .i64 0, .int .i64 0, .int .i64 0] (0, 0) _ rfl z1 Tryz.underlying83 rfl info_h26) rfl ?_
    exact ⟨by rw [HV.out, HN.out]; rfl, z2⟩
  have gft : (f == t) = false := by simpa using hft
  have HBO : Hid (B = om) := Lib.hid (by rw [HBB.out, gft]; simp)
  clear hft
  go_wp2_with fail
  refine (H2.out w1).mono ?_
  rintro e w2 ⟨rfl, hb⟩
  have HB2 := Lib.hid (HB1.out.trans (hb.mono HB1.out.size))
  clear hb q0 q1 p0 p1 r0 r1 r2 r3 r4 r5 rf
  obtain ⟨⟨q0, q1⟩, ⟨p0, p1⟩, ⟨r0, r1, r2, r3, r4, r5⟩, rf⟩ := HRD.out w2 HB2.out
  cases om
  · have HN : Hid (B = false) := Lib.hid HBO.out
    go_wp2_with fail
    obtain ⟨_, _, z0, _, zb⟩ := HA.out w2 HB2.out
    obtain ⟨z1, z2⟩ := set6 z0 zb (by omega) (.int .i64 0) (.int .i64 0) (.int .i64 0) (.int .i64 0) (.int .i64 0) (.int .i64 0)
    refine bodyPost_ret (res_ct Tryz.results35 _ _ (w.heap.size + 1 + 1) 83 #[.int .i64 0, .int .i64 0, .int .i64 0, .int .i64 0, .int .i64 0, .int .i64 0] (0, 0) _ rfl z1 Tryz.underlying83 rfl info_h26) rfl ?_
    exact ⟨by rw [HV.out, HN.out]; rfl, z2⟩
  have HN : Hid (B = true) := Lib.hid HBO.out
  obtain ⟨om1, om2⟩ := HOM.out.1 rfl
  have HL1 := Lib.hid (fun w' => leftOf_any fx fy a b w' HVF.out.1 HVF.out.2 om1 om2)
  have HL2 := Lib.hid (fun w' => leftOf_any (-tx) (-ty) a b w' (by have := HVT.out; omega) (by have := HVT.out; omega) om1 om2)
  have hvt := HVT.out
  have e1 : IntKind.i64.wrap (-tx) = -tx := IntWalk.i64_in _ (by omega)
  have e2 : IntKind.i64.wrap (-ty) = -ty := IntWalk.i64_in _ (by omega)
  clear om1 om2 hvt
  go_wp2_with fail
  refine (H3.out w2).mono ?_
  rintro e w3 ⟨rfl, hb⟩
  have hY := cells1 w3 #[.int .i64 tx, .int .i64 ty] 65 (Below.refl _ _)
  have HBY := Lib.hid (HB2.out.trans ((hb.trans (hY.2.2.mono hb.size)).mono HB2.out.size))
  have HQY := Lib.hid hY.1
  obtain ⟨y, hy⟩ : ∃ y, w3.heap.size = y := ⟨_, rfl⟩
  rw [hy] at HQY
  obtain ⟨Y, hYY⟩ : ∃ Y, w3.alloc (.cells #[.int .i64 tx, .int .i64 ty] 65) = Y := ⟨_, rfl⟩
  rw [hYY] at HBY HQY
  have HYY := Lib.hid hYY
  have HLY : Hid (y < Y.heap.size) := Lib.hid (Array.getElem?_eq_some_iff.1 HQY.out).1
  have HRY : Hid (∀ W', Below Y.heap.size Y W' → (W'.cell? ⟨w.heap.size, 0, none⟩ = some (.int .i64 f) ∧ W'.cell? ⟨w.heap.size + 1, 0, none⟩ = some (.int .i64 a) ∧ W'.cell? ⟨w.heap.size + 1, 1, none⟩ = some (.int .i64 b) ∧ W'.cell? ⟨y, 0, none⟩ = some (.int .i64 tx) ∧ W'.cell? ⟨y, 1, none⟩ = some (.int .i64 ty))) := Lib.hid (fun W' h => by
    obtain ⟨⟨x1, _⟩, ⟨x2, x3⟩, _⟩ := HRD.out W' (HBY.out.trans (h.mono HBY.out.size))
    have h2 := (h.block _ HLY.out).trans HQY.out
    exact ⟨x1, x2, x3, cellH h2 0, cellH h2 1⟩)
  have C4 := Lib.hid (upC (Z := Y) H4.out)
  have C5 := Lib.hid (upC (Z := Y) HL1.out)
  have C6 := Lib.hid (upC (Z := Y) HL2.out)
  clear hb hY hYY q0 q1 p0 p1 r0 r1 r2 r3 r4 r5 rf gft
  go_wp2_with fail
  rw [HYY.out]
  refine wp_region_turn 15 (fun _ w' => Below Y.heap.size Y w') (by kernel_rfl) (by kernel_rfl) ((Below.refl _ Y).drew) ?_
  simp only [List.take_succ_cons, List.take_zero, List.drop_succ_cons, List.drop_zero]
  iterate 15
    (first
      | (apply turnC_step (by rfl); (intro w' hw'; obtain ⟨q0, q1, q2, q3, q4⟩ := HRY.out w' hw'; go_simp; first | with_reducible exact ⟨hw', congrArg (Value.int .i64) e1⟩ | with_reducible exact ⟨hw', congrArg (Value.int .i64) e2⟩ | with_reducible exact ⟨hw', rfl⟩ | with_reducible exact rfl))
      | (apply turnC_step (by rfl); (intro w' hw'; go_simp; first | with_reducible exact C4.out w' hw' | with_reducible exact C5.out w' hw' | with_reducible exact C6.out w' hw')))
    simp only [Act.put, List.setIfInBounds_toArray, List.set_cons_succ, List.set_cons_zero]
  intro listed w5 _ hw5
  have HB5 := Lib.hid (HBY.out.trans (hw5.mono HBY.out.size))
  obtain ⟨⟨q0, q1⟩, ⟨p0, p1⟩, ⟨r0, r1, r2, r3, r4, r5⟩, rf⟩ := HRD.out w5 HB5.out
  clear hw5
  go_wp2_with fail
  obtain ⟨_, _, z0, _, zb⟩ := HA.out w5 HB5.out
  obtain ⟨z1, z2⟩ := set6 z0 zb (by omega) (.int .i64 fy) (.int .i64 (-fx)) (.int .i64 (fy * a - fx * b)) (.int .i64 (-ty)) (.int .i64 tx) (.int .i64 (-ty * a - -tx * b))
  refine bodyPost_ret (res_ct Tryz.results35 _ _ (w.heap.size + 1 + 1) 83 #[.int .i64 fy, .int .i64 (-fx), .int .i64 (fy * a - fx * b), .int .i64 (-ty), .int .i64 tx, .int .i64 (-ty * a - -tx * b)] (0, 0) _ rfl z1 Tryz.underlying83 rfl info_h26) rfl ?_
  exact ⟨by rw [HV.out, HN.out]; rfl, z2⟩
end Go.Proofs.YtebdboacmeafaaaGreat
/- Package circle: Meet. -/
set_option linter.unusedVariables false
set_option linter.unusedSimpArgs false
namespace Go.Proofs.YtebdboacmeafaaaGreat
open Go Go.RowKit

/-- How much of a wedge is left behind the beginning of another one. -/
def mtL (pf pt qf : Int) : Int := opI pf pt - (qf - pf) % 3600
def mtN : Value := .tuple #[.agg #[.int .i64 0, .int .i64 0], .bool false]
def mtK (pf pt qf qt : Int) : Value := if mtL pf pt qf < 0 then mtN else .tuple #[.agg #[.int .i64 qf, .int .i64 ((qf + min (mtL pf pt qf) (opI qf qt)) % 3600)], .bool true]
/-- What two wedges have in common. -/
def mtV (af at' bf bt : Int) : Value := if vwB af at' = true then (if vwB bf bt = true then (if opI af at' < (bf - af) % 3600 then mtK bf bt af at' else mtK af at' bf bt) else mtN) else mtN
theorem below_al {A B : World} (h : Below A.heap.size A B) (o : Obj) : Below A.heap.size A (B.alloc o) := h.alloc h.size o
theorem row_one {w : World} {t : TypeId} {A : Nat} (o : Int) (h : w.heap[A]? = some (.cells #[.int .i64 o] t (0, 0))) : INRow w (.slice (some ⟨A, 0, none⟩) 1 1) [o] := by
  refine .inr ⟨A, 0, 1, rfl, (Array.getElem?_eq_some_iff.1 h).1, fun i hi => ?_⟩
  obtain rfl : i = 0 := by simpa using hi
  exact cellH h 0
/-- The worlds and frames in the head of Meet's last region. -/
def MtInv (w5 : World) (p3 : Nat) (qf qt o2 lf mn T : Int) (u0 u1 u2 u4 u5 u7 u8 u9 u10 u11 u12 u13 u14 u15 u16 u17 u18 u19 u20 u21 u22 u23 u24 u25 u26 u27 u28 u29 u30 u31 u32 u33 u34 u35 u36 u37 u38 : Value) (listed : Array Bool) (a : Act) (w' : World) : Prop :=
  ∃ (l0 l1 l2 l3 l4 l5 l6 l7 l8 l9 l10 l11 : Bool) (A : Nat), listed = #[l0, l1, l2, l3, l4, l5, l6, l7, l8, l9, l10, l11, false, false] ∧ a = { tmps := #[u0, u1, u2, .pointer (some ⟨p3, 0, none⟩), u4, u5, .int .i64 lf, u7, u8, u9, u10, u11, u12, u13, u14, u15, u16, u17, u18, u19, u20, u21, u22, u23, u24, u25, u26, u27, u28, u29, u30, u31, u32, u33, u34, u35, u36, u37, u38, onlyIf l0 (.pointer (some ⟨p3, 0, none⟩)), onlyIf l1 (.int .i64 qf), onlyIf l2 (.pointer (some ⟨p3, 0, none⟩)), onlyIf l3 (.int .i64 qf), onlyIf l4 (.int .i64 lf), onlyIf l5 (.agg #[.int .i64 qf, .int .i64 qt]), onlyIf l6 (.int .i64 o2), onlyIf l7 (.slice (some ⟨A, 0, none⟩) 1 1), onlyIf l8 (.int .i64 mn), onlyIf l9 (.int .i64 (qf + mn)), onlyIf l10 (.int .i64 T), onlyIf l11 (.agg #[.int .i64 qf, .int .i64 T])], defers := [] } ∧ Below w5.heap.size w5 w' ∧ (l7 = true → w'.heap[A]? = some (.cells #[.int .i64 o2] 3 (0, 0)))
end Go.Proofs.YtebdboacmeafaaaGreat
