/- Merged: CA1, CA2, CA3, CA4. -/
import Derived.Test.YtebdboacmeafaaaGreatHA0
import Derived.Laws.StructEq
import Derived.StillTailTactics
/- Small functions of package circle and of its reference: within, turn, turnedLeft, turnedRight, onMap, validDivision, validZero, validSlack, validID. -/
set_option linter.unusedVariables false
set_option linter.unusedSimpArgs false
namespace Go.Proofs.YtebdboacmeafaaaGreat
open Go Go.RowKit

def ciB (n a b : Int) : Bool := decide (a ≤ n) && decide (n ≤ b)
theorem ci_iff {n a b : Int} : ciB n a b = true ↔ a ≤ n ∧ n ≤ b := by unfold ciB; rw [Bool.and_eq_true, decide_eq_true_eq, decide_eq_true_eq]
theorem qwithin_any (n a b : Int) (w : World) : Calls Tryz.prog 62 #[.int .i64 n, .int .i64 a, .int .i64 b] w fun e w' => e = .returned (.bool (ciB n a b)) ∧ w' = w := by
  have HV : Hid (ciB n a b = (decide (a ≤ n) && decide (n ≤ b))) := Lib.hid rfl
  by_cases h : a ≤ n
  all_goals
    try have g : decide (a ≤ n) = false := decide_eq_false h
    go_enter Tryz.func62, Tryz.ntmps62
    go_wp2_with fail
    go_ret
    exact ⟨by rw [HV.out]; simp [h] <;> omega, rfl⟩
theorem pwithin_any (n a b : Int) (w : World) : Calls Tryz.prog 43 #[.int .i64 n, .int .i64 a, .int .i64 b] w fun e w' => e = .returned (.bool (ciB n a b)) ∧ w' = w := by
  have HV : Hid (ciB n a b = (decide (a ≤ n) && decide (n ≤ b))) := Lib.hid rfl
  by_cases h : a ≤ n
  all_goals
    try have g : decide (a ≤ n) = false := decide_eq_false h
    go_enter Tryz.func43, Tryz.ntmps43
    go_wp2_with fail
    go_ret
    exact ⟨by rw [HV.out]; simp [h] <;> omega, rfl⟩
theorem validDivision_any (n : Int) (w : World) : Calls Tryz.prog 116 #[.int .i64 n] w fun e w' => e = .returned (.bool (ciB n 0 3599)) ∧ w' = w := by
  go_enter Tryz.func116, Tryz.ntmps116
  go_wp2_with fail
  refine (qwithin_any _ _ _ _).mono ?_
  rintro e w1 ⟨rfl, rfl⟩
  go_wp2_with fail
  go_ret
  exact ⟨rfl, rfl⟩
theorem validZero_any (n : Int) (w : World) : Calls Tryz.prog 98 #[.int .i64 n] w fun e w' => e = .returned (.bool (ciB n (-300) 300)) ∧ w' = w := by
  go_enter Tryz.func98, Tryz.ntmps98
  go_wp2_with fail
  refine (qwithin_any _ _ _ _).mono ?_
  rintro e w1 ⟨rfl, rfl⟩
  go_wp2_with fail
  go_ret
  exact ⟨rfl, rfl⟩
theorem validSlack_any (n : Int) (w : World) : Calls Tryz.prog 99 #[.int .i64 n] w fun e w' => e = .returned (.bool (ciB n 1 100)) ∧ w' = w := by
  go_enter Tryz.func99, Tryz.ntmps99
  go_wp2_with fail
  refine (qwithin_any _ _ _ _).mono ?_
  rintro e w1 ⟨rfl, rfl⟩
  go_wp2_with fail
  go_ret
  exact ⟨rfl, rfl⟩
theorem validID_any (n : Int) (w : World) : Calls Tryz.prog 39 #[.int .i64 n] w fun e w' => e = .returned (.bool (ciB n 1 1099511627776)) ∧ w' = w := by
  go_enter Tryz.func39, Tryz.ntmps39
  go_wp2_with fail
  refine (qwithin_any _ _ _ _).mono ?_
  rintro e w1 ⟨rfl, rfl⟩
  go_wp2_with fail
  go_ret
  exact ⟨rfl, rfl⟩
theorem tmod_c {n : Int} : -3600 < n.tmod 3600 ∧ n.tmod 3600 < 3600 ∧ (0 ≤ n → n.tmod 3600 = n % 3600) ∧ (n.tmod 3600) % 3600 = n % 3600 ∧ (n < 0 → n.tmod 3600 ≤ 0) := by
  rcases Int.lt_or_le n 0 with h | h
  · have e : n.tmod 3600 = -((-n) % 3600) := by rw [← Int.tmod_eq_emod_of_nonneg (by omega), Int.neg_tmod, Int.neg_neg]
    rw [e]
    omega
  · rw [Int.tmod_eq_emod_of_nonneg h]; omega
theorem qturn_any (n : Int) (w : World) : Calls Tryz.prog 93 #[.int .i64 n] w fun e w' => e = .returned (.int .i64 (n % 3600)) ∧ w' = w := by
  obtain ⟨h1, h2, _, h4, _⟩ := tmod_c (n := n)
  obtain ⟨_, _, h3, _, _⟩ := tmod_c (n := n.tmod 3600 + 3600)
  obtain ⟨r, hr⟩ : ∃ r, n.tmod 3600 = r := ⟨_, rfl⟩
  have h5 := h3 (by omega)
  rw [hr] at h1 h2 h4 h5
  have e1 : IntKind.i64.wrap r = r := IntWalk.i64_in _ (by omega)
  have e2 : IntKind.i64.wrap (r + 3600) = r + 3600 := IntWalk.i64_in _ (by omega)
  have HE : Hid ((r + 3600) % 3600 = n % 3600) := Lib.hid (by omega)
  have e3 : IntKind.i64.wrap ((r + 3600).tmod 3600) = (r + 3600).tmod 3600 := IntWalk.i64_in _ (by rw [h5]; omega)
  have HF := Lib.hid h5
  clear h1 h2 h3 h4 h5
  go_enter Tryz.func93, Tryz.ntmps93
  go_wp2_with fail
  go_ret
  exact ⟨by rw [← HE.out, ← HF.out]; rfl, rfl⟩
theorem pTurn_any (n : Int) (w : World) : Calls Tryz.prog 115 #[.int .i64 n] w fun e w' => e = .returned (.int .i64 (n % 3600)) ∧ w' = w := by
  obtain ⟨h1, h2, _, h4, _⟩ := tmod_c (n := n)
  obtain ⟨r, hr⟩ : ∃ r, n.tmod 3600 = r := ⟨_, rfl⟩
  rw [hr] at h1 h2 h4
  have e1 : IntKind.i64.wrap r = r := IntWalk.i64_in _ (by omega)
  have e2 : IntKind.i64.wrap (r + 3600) = r + 3600 := IntWalk.i64_in _ (by omega)
  by_cases h0 : r < 0
  · have HE : Hid (r + 3600 = n % 3600) := Lib.hid (by omega)
    clear h1 h2 h4
    go_enter Tryz.func115, Tryz.ntmps115
    go_wp2_with fail
    go_ret
    exact ⟨by rw [← HE.out]; rfl, rfl⟩
  · have HE : Hid (r = n % 3600) := Lib.hid (by omega)
    clear h1 h2 h4
    go_enter Tryz.func115, Tryz.ntmps115
    go_wp2_with fail
    go_ret
    exact ⟨by rw [← HE.out]; rfl, rfl⟩
/-- A place is one of the map. -/
def omB (x y : Int) : Bool := ciB x 0 48 && ciB y 0 48
theorem om_iff {x y : Int} : omB x y = true ↔ (0 ≤ x ∧ x ≤ 48) ∧ 0 ≤ y ∧ y ≤ 48 := by unfold omB; rw [Bool.and_eq_true, ci_iff, ci_iff]
theorem onMap_any (x y : Int) (w : World) : Calls Tryz.prog 96 #[.agg #[.int .i64 x, .int .i64 y]] w fun e w' => e = .returned (.bool (omB x y)) ∧ Below w.heap.size w w' := by
  have HB := Lib.hid ((Below.refl w.heap.size w).alloc (Nat.le_refl _) (.cells #[.int .i64 x, .int .i64 y] 65))
  have H1 := Lib.hid (fun w' => qwithin_any x 0 48 w')
  have H2 := Lib.hid (fun w' => qwithin_any y 0 48 w')
  unfold omB
  obtain ⟨b1, hb1⟩ : ∃ z, ciB x 0 48 = z := ⟨_, rfl⟩
  obtain ⟨b2, hb2⟩ : ∃ z, ciB y 0 48 = z := ⟨_, rfl⟩
  rw [hb1] at H1 ⊢
  rw [hb2] at H2 ⊢
  clear hb1 hb2
  go_enter Tryz.func96, Tryz.ntmps96
  go_wp2_with fail
  refine (H1.out _).mono ?_
  rintro e w1 ⟨rfl, rfl⟩
  cases b1
  · go_wp2_with fail
    go_ret
    exact ⟨rfl, HB.out⟩
  go_wp2_with fail
  refine (H2.out _).mono ?_
  rintro e w1 ⟨rfl, rfl⟩
  go_wp2_with fail
  go_ret
  exact ⟨by simp, HB.out⟩
theorem pOn_any (x y : Int) (w : World) : Calls Tryz.prog 130 #[.agg #[.int .i64 x, .int .i64 y]] w fun e w' => e = .returned (.bool (omB x y)) ∧ Below w.heap.size w w' := by
  have HB := Lib.hid ((Below.refl w.heap.size w).alloc (Nat.le_refl _) (.cells #[.int .i64 x, .int .i64 y] 65))
  have H1 := Lib.hid (fun w' => pwithin_any x 0 48 w')
  have H2 := Lib.hid (fun w' => pwithin_any y 0 48 w')
  unfold omB
  obtain ⟨b1, hb1⟩ : ∃ z, ciB x 0 48 = z := ⟨_, rfl⟩
  obtain ⟨b2, hb2⟩ : ∃ z, ciB y 0 48 = z := ⟨_, rfl⟩
  rw [hb1] at H1 ⊢
  rw [hb2] at H2 ⊢
  clear hb1 hb2
  go_enter Tryz.func130, Tryz.ntmps130
  go_wp2_with fail
  refine (H1.out _).mono ?_
  rintro e w1 ⟨rfl, rfl⟩
  go_wp2_with fail
  refine (H2.out _).mono ?_
  rintro e w1 ⟨rfl, rfl⟩
  cases b1
  · go_wp2_with fail
    go_ret
    exact ⟨rfl, HB.out⟩
  go_wp2_with fail
  go_ret
  exact ⟨by simp, HB.out⟩
end Go.Proofs.YtebdboacmeafaaaGreat
/- Package circle: blocks that a call lays, turnedLeft, turnedRight, sides, Vector. -/
set_option linter.unusedVariables false
set_option linter.unusedSimpArgs false
namespace Go.Proofs.YtebdboacmeafaaaGreat
open Go Go.RowKit

/-! What lies in blocks that were laid one behind the other. -/
theorem cells1 (w : World) (A : Array Value) (t : TypeId) {W : World} (hb : Below (w.alloc (.cells A t)).heap.size (w.alloc (.cells A t)) W) :
    W.heap[w.heap.size]? = some (.cells A t (0, 0)) ∧ w.heap.size < W.heap.size ∧ Below w.heap.size w W := by
  have s1 : (w.alloc (.cells A t)).heap.size = w.heap.size + 1 := by simp
  refine ⟨?_, ?_, ?_⟩
  · rw [hb.block _ (by omega)]; exact heap_alloc_new _ _
  · have := hb.size; omega
  · exact ((Below.refl _ w).alloc (Nat.le_refl _) _).trans (hb.mono (by omega))
theorem cells3 (w : World) (A B C : Array Value) (t u v : TypeId) {W : World} (hb : Below (((w.alloc (.cells A t)).alloc (.cells B u)).alloc (.cells C v)).heap.size (((w.alloc (.cells A t)).alloc (.cells B u)).alloc (.cells C v)) W) :
    W.heap[w.heap.size]? = some (.cells A t (0, 0)) ∧ W.heap[w.heap.size + 1]? = some (.cells B u (0, 0)) ∧ W.heap[w.heap.size + 1 + 1]? = some (.cells C v (0, 0)) ∧ w.heap.size + 1 + 1 < W.heap.size ∧ Below w.heap.size w W := three_cells w A B C t u v hb
theorem cells4 (w : World) (A B C D : Array Value) (t u v x : TypeId) {W : World} (hb : Below ((((w.alloc (.cells A t)).alloc (.cells B u)).alloc (.cells C v)).alloc (.cells D x)).heap.size ((((w.alloc (.cells A t)).alloc (.cells B u)).alloc (.cells C v)).alloc (.cells D x)) W) :
    W.heap[w.heap.size]? = some (.cells A t (0, 0)) ∧ W.heap[w.heap.size + 1]? = some (.cells B u (0, 0)) ∧ W.heap[w.heap.size + 1 + 1]? = some (.cells C v (0, 0)) ∧ W.heap[w.heap.size + 1 + 1 + 1]? = some (.cells D x (0, 0)) ∧ w.heap.size + 1 + 1 + 1 < W.heap.size ∧ Below w.heap.size w W := by
  have s3 : (((w.alloc (.cells A t)).alloc (.cells B u)).alloc (.cells C v)).heap.size = w.heap.size + 1 + 1 + 1 := by simp
  obtain ⟨h1, h2, h3⟩ := cells1 _ _ _ hb
  rw [s3] at h1 h2
  obtain ⟨k1, k2, k3, _, k5⟩ := cells3 w A B C t u v h3
  exact ⟨k1, k2, k3, h1, h2, k5⟩
theorem res_ct {P : Program} {fn : Func} {p u : Tmp} {ty : TypeId} (h : fn.results = #[.cell p ty, .tmp u]) (tmps : Array Value) (w : World) (g : Nat) (t : TypeId) (cs : Array Value) (fr : Nat × Nat) (d : TypeDesc)
    (hp : tmps.getD p undef = .pointer (some ⟨g, 0, none⟩)) (hg : w.heap[g]? = some (.cells cs t fr))
    (hu : P.underlying ty = some d) (hd : (match d with | .struct _ | .array _ _ => true | _ => false) = true) (hi : (P.info? ty).map (·.size) = some cs.size) :
    (results fn tmps).run P w = .ok (.tuple #[.agg cs, tmps.getD u undef]) w := by
  have hp' : tmps[p]?.getD undef = .pointer (some ⟨g, 0, none⟩) := by simpa using hp
  rw [results_cell_tmp h]
  simp [hp', asAddr, run_loadVar_row w g t ty cs fr d hg hu hd hi, Result.andThen]
theorem set2 {w W : World} {q : Nat} {t : TypeId} {x y : Value} (h : W.heap[q]? = some (Obj.cells #[x, y] t (0, 0))) (hb : Below w.heap.size w W) (hq : w.heap.size ≤ q) (a b : Value) :
    ((W.setCell ⟨q, 0, none⟩ a).setCell ⟨q, 1, none⟩ b).heap[q]? = some (Obj.cells #[a, b] t (0, 0)) ∧ Below w.heap.size w ((W.setCell ⟨q, 0, none⟩ a).setCell ⟨q, 1, none⟩ b) :=
  ⟨heap_same (heap_same h 0 _) 1 _, (hb.setCell (p := ⟨q, 0, none⟩) hq _).setCell (p := ⟨q, 1, none⟩) hq _⟩
theorem set3 {w W : World} {q : Nat} {t : TypeId} {x y z : Value} (h : W.heap[q]? = some (Obj.cells #[x, y, z] t (0, 0))) (hb : Below w.heap.size w W) (hq : w.heap.size ≤ q) (a b c : Value) :
    (((W.setCell ⟨q, 0, none⟩ a).setCell ⟨q, 1, none⟩ b).setCell ⟨q, 2, none⟩ c).heap[q]? = some (Obj.cells #[a, b, c] t (0, 0)) ∧ Below w.heap.size w (((W.setCell ⟨q, 0, none⟩ a).setCell ⟨q, 1, none⟩ b).setCell ⟨q, 2, none⟩ c) :=
  ⟨heap_same (heap_same (heap_same h 0 _) 1 _) 2 _, ((hb.setCell (p := ⟨q, 0, none⟩) hq _).setCell (p := ⟨q, 1, none⟩) hq _).setCell (p := ⟨q, 2, none⟩) hq _⟩
theorem info_pl2 : (Tryz.prog.info? 65).map (·.size) = some 2 := by kernel_rfl

/-- A place as a value. -/
abbrev pV (x y : Int) : Value := .agg #[.int .i64 x, .int .i64 y]
abbrev Pc (x y : Int) : Obj := .cells #[.int .i64 x, .int .i64 y] 65
set_option maxRecDepth 100000 in
theorem turnedLeft_any (x y : Int) (w : World) (hy : -4611686018427387904 ≤ y ∧ y ≤ 4611686018427387904) : Calls Tryz.prog 126 #[.agg #[.int .i64 x, .int .i64 y]] w fun e w' => e = .returned (.agg #[.int .i64 (-y), .int .i64 x]) ∧ Below w.heap.size w w' := by
  have HX := Lib.hid (two_cells w #[.int .i64 x, .int .i64 y] #[.int .i64 (-y), .int .i64 x] 65 65 (Below.refl _ _))
  have n1 : IntKind.i64.wrap (-y) = -y := IntWalk.i64_in _ (by omega)
  have n2 : wrap64 (-y) = -y := w64 (by omega)
  clear hy
  go_enter Tryz.func126, Tryz.ntmps126
  go_wp2_with fail
  refine bodyPost_ret (results_cell_row Tryz.results126 _ _ (w.heap.size + 1) 65 #[.int .i64 (-y), .int .i64 x] (0, 0) _ rfl HX.out.2.1 Tryz.underlying65 rfl info_pl2) rfl ?_
  exact ⟨rfl, HX.out.2.2.2⟩
set_option maxRecDepth 100000 in
theorem turnedRight_any (x y : Int) (w : World) (hy : -4611686018427387904 ≤ x ∧ x ≤ 4611686018427387904) : Calls Tryz.prog 123 #[.agg #[.int .i64 x, .int .i64 y]] w fun e w' => e = .returned (.agg #[.int .i64 y, .int .i64 (-x)]) ∧ Below w.heap.size w w' := by
  have HX := Lib.hid (two_cells w #[.int .i64 x, .int .i64 y] #[.int .i64 y, .int .i64 (-x)] 65 65 (Below.refl _ _))
  have n1 : IntKind.i64.wrap (-x) = -x := IntWalk.i64_in _ (by omega)
  have n2 : wrap64 (-x) = -x := w64 (by omega)
  clear hy
  go_enter Tryz.func123, Tryz.ntmps123
  go_wp2_with fail
  refine bodyPost_ret (results_cell_row Tryz.results123 _ _ (w.heap.size + 1) 65 #[.int .i64 y, .int .i64 (-x)] (0, 0) _ rfl HX.out.2.1 Tryz.underlying65 rfl info_pl2) rfl ?_
  exact ⟨rfl, HX.out.2.2.2⟩

/-! The four sides. -/
def sdE : Value := .func (.func 124) #[] #[]
def sdN (b : Nat) : Value := .func (.func 125) #[] #[.pointer (some ⟨b, 0, none⟩)]
def sdW (b : Nat) : Value := .func (.func 127) #[] #[.pointer (some ⟨b, 0, none⟩)]
def sdS (b : Nat) : Value := .func (.func 128) #[] #[.pointer (some ⟨b, 0, none⟩)]
/-- The boxes of the sides. -/
structure Sds (b : Nat) (w : World) : Prop where
  e : w.heap[b]? = some (.cells #[sdE] 80 (0, 0))
  n : w.heap[b + 1]? = some (.cells #[sdN b] 80 (0, 0))
  s : w.heap[b + 1 + 1]? = some (.cells #[sdW (b + 1)] 80 (0, 0))
theorem Sds.keep {b : Nat} {w w' : World} (h : Sds b w) (hb : Below w.heap.size w w') : Sds b w' :=
  ⟨(hb.block _ (Array.getElem?_eq_some_iff.1 h.e).1).trans h.e, (hb.block _ (Array.getElem?_eq_some_iff.1 h.n).1).trans h.n, (hb.block _ (Array.getElem?_eq_some_iff.1 h.s).1).trans h.s⟩
set_option maxRecDepth 100000 in
theorem side1_any (n : Int) (w : World) : Calls Tryz.prog 124 #[.int .i64 n] w fun e w' => e = .returned (.agg #[.int .i64 450, .int .i64 n]) ∧ Below w.heap.size w w' := by
  have HX := Lib.hid (cells1 w #[.int .i64 450, .int .i64 n] 65 (Below.refl _ _))
  go_enter Tryz.func124, Tryz.ntmps124
  go_wp2_with fail
  refine bodyPost_ret (results_cell_row Tryz.results124 _ _ w.heap.size 65 #[.int .i64 450, .int .i64 n] (0, 0) _ rfl HX.out.1 Tryz.underlying65 rfl info_pl2) rfl ?_
  exact ⟨rfl, HX.out.2.2⟩
set_option maxRecDepth 100000 in
theorem side2_any (b : Nat) (n : Int) (w : World) (hs : Sds b w) (hn : -450 ≤ n ∧ n ≤ 450) : Calls Tryz.prog 125 #[.int .i64 n, .pointer (some ⟨b, 0, none⟩)] w fun e w' => e = .returned (.agg #[.int .i64 (-n), .int .i64 450]) ∧ Below w.heap.size w w' := by
  have HA := Lib.hid (fun W' => cells1 w #[.int .i64 0, .int .i64 0] 65 (W := W'))
  have HS := Lib.hid (hs.keep ((Below.refl w.heap.size w).alloc (Nat.le_refl _) (.cells #[.int .i64 0, .int .i64 0] 65)))
  have r0 := cellH HS.out.e 0
  simp [sdE] at r0
  have H1 := Lib.hid (fun w' (h : Sds b w') => side1_any n w')
  have H2 := Lib.hid (fun w' => turnedLeft_any 450 n w' (by omega))
  have HB0 := Lib.hid ((Below.refl (w.alloc (.cells #[.int .i64 0, .int .i64 0] 65)).heap.size (w.alloc (.cells #[.int .i64 0, .int .i64 0] 65))))
  have enn : -(-n) = n := by omega
  obtain ⟨Z, hZ⟩ : ∃ Z, w.alloc (.cells #[.int .i64 0, .int .i64 0] 65) = Z := ⟨_, rfl⟩
  rw [hZ] at HA HS HB0
  have HZ := Lib.hid hZ
  clear hs hn hZ
  go_enter Tryz.func125, Tryz.ntmps125
  go_wp2_with fail
  rw [HZ.out]
  refine (H1.out Z HS.out).mono ?_
  rintro e w1 ⟨rfl, hb1⟩
  have HB1 := Lib.hid (HB0.out.trans (hb1.mono HB0.out.size))
  clear hb1 r0
  go_wp2_with fail
  refine (H2.out w1).mono ?_
  rintro e w2 ⟨rfl, hb2⟩
  have HB2 := Lib.hid (HB1.out.trans (hb2.mono HB1.out.size))
  obtain ⟨c0, _, hbw⟩ := HA.out w2 HB2.out
  have HC := Lib.hid c0
  have HBW := Lib.hid hbw
  have q0 := cellH c0 0
  have q1 := cellH c0 1
  have qf := freeH c0
  simp only [List.getElem?_toArray, List.getElem?_cons_zero, List.getElem?_cons_succ] at q0 q1
  clear hb2 c0 hbw
  go_wp2_with fail
  obtain ⟨z1, z2⟩ := set2 HC.out HBW.out (Nat.le_refl _) (.int .i64 (-n)) (.int .i64 450)
  refine bodyPost_ret (results_cell_row Tryz.results125 _ _ w.heap.size 65 #[.int .i64 (-n), .int .i64 450] (0, 0) _ rfl z1 Tryz.underlying65 rfl info_pl2) rfl ?_
  exact ⟨rfl, z2⟩
set_option maxRecDepth 100000 in
theorem side3_any (b : Nat) (n : Int) (w : World) (hs : Sds b w) (hn : -450 ≤ n ∧ n ≤ 450) : Calls Tryz.prog 127 #[.int .i64 n, .pointer (some ⟨b + 1, 0, none⟩)] w fun e w' => e = .returned (.agg #[.int .i64 (-450), .int .i64 (-n)]) ∧ Below w.heap.size w w' := by
  have HA := Lib.hid (fun W' => cells1 w #[.int .i64 0, .int .i64 0] 65 (W := W'))
  have HS := Lib.hid (hs.keep ((Below.refl w.heap.size w).alloc (Nat.le_refl _) (.cells #[.int .i64 0, .int .i64 0] 65)))
  have r0 := cellH HS.out.n 0
  simp [sdN] at r0
  have H1 := Lib.hid (fun w' (h : Sds b w') => side2_any b n w' h (by omega))
  have H2 := Lib.hid (fun w' => turnedLeft_any (-n) 450 w' (by omega))
  have HB0 := Lib.hid ((Below.refl (w.alloc (.cells #[.int .i64 0, .int .i64 0] 65)).heap.size (w.alloc (.cells #[.int .i64 0, .int .i64 0] 65))))
  have enn : -(-n) = n := by omega
  obtain ⟨Z, hZ⟩ : ∃ Z, w.alloc (.cells #[.int .i64 0, .int .i64 0] 65) = Z := ⟨_, rfl⟩
  rw [hZ] at HA HS HB0
  have HZ := Lib.hid hZ
  clear hs hn hZ
  go_enter Tryz.func127, Tryz.ntmps127
  go_wp2_with fail
  rw [HZ.out]
  refine (H1.out Z HS.out).mono ?_
  rintro e w1 ⟨rfl, hb1⟩
  have HB1 := Lib.hid (HB0.out.trans (hb1.mono HB0.out.size))
  clear hb1 r0
  go_wp2_with fail
  refine (H2.out w1).mono ?_
  rintro e w2 ⟨rfl, hb2⟩
  have HB2 := Lib.hid (HB1.out.trans (hb2.mono HB1.out.size))
  obtain ⟨c0, _, hbw⟩ := HA.out w2 HB2.out
  have HC := Lib.hid c0
  have HBW := Lib.hid hbw
  have q0 := cellH c0 0
  have q1 := cellH c0 1
  have qf := freeH c0
  simp only [List.getElem?_toArray, List.getElem?_cons_zero, List.getElem?_cons_succ] at q0 q1
  clear hb2 c0 hbw
  go_wp2_with fail
  obtain ⟨z1, z2⟩ := set2 HC.out HBW.out (Nat.le_refl _) (.int .i64 (-450)) (.int .i64 (-n))
  refine bodyPost_ret (results_cell_row Tryz.results127 _ _ w.heap.size 65 #[.int .i64 (-450), .int .i64 (-n)] (0, 0) _ rfl z1 Tryz.underlying65 rfl info_pl2) rfl ?_
  exact ⟨rfl, z2⟩
set_option maxRecDepth 100000 in
theorem side4_any (b : Nat) (n : Int) (w : World) (hs : Sds b w) (hn : -450 ≤ n ∧ n ≤ 450) : Calls Tryz.prog 128 #[.int .i64 n, .pointer (some ⟨b + 1 + 1, 0, none⟩)] w fun e w' => e = .returned (.agg #[.int .i64 n, .int .i64 (-450)]) ∧ Below w.heap.size w w' := by
  have HA := Lib.hid (fun W' => cells1 w #[.int .i64 0, .int .i64 0] 65 (W := W'))
  have HS := Lib.hid (hs.keep ((Below.refl w.heap.size w).alloc (Nat.le_refl _) (.cells #[.int .i64 0, .int .i64 0] 65)))
  have r0 := cellH HS.out.s 0
  simp [sdW] at r0
  have H1 := Lib.hid (fun w' (h : Sds b w') => side3_any b n w' h (by omega))
  have H2 := Lib.hid (fun w' => turnedLeft_any (-450) (-n) w' (by omega))
  have HB0 := Lib.hid ((Below.refl (w.alloc (.cells #[.int .i64 0, .int .i64 0] 65)).heap.size (w.alloc (.cells #[.int .i64 0, .int .i64 0] 65))))
  have enn : -(-n) = n := by omega
  obtain ⟨Z, hZ⟩ : ∃ Z, w.alloc (.cells #[.int .i64 0, .int .i64 0] 65) = Z := ⟨_, rfl⟩
  rw [hZ] at HA HS HB0
  have HZ := Lib.hid hZ
  clear hs hn hZ
  go_enter Tryz.func128, Tryz.ntmps128
  go_wp2_with fail
  rw [HZ.out]
  refine (H1.out Z HS.out).mono ?_
  rintro e w1 ⟨rfl, hb1⟩
  have HB1 := Lib.hid (HB0.out.trans (hb1.mono HB0.out.size))
  clear hb1 r0
  go_wp2_with fail
  refine (H2.out w1).mono ?_
  rintro e w2 ⟨rfl, hb2⟩
  have HB2 := Lib.hid (HB1.out.trans (hb2.mono HB1.out.size))
  obtain ⟨c0, _, hbw⟩ := HA.out w2 HB2.out
  have HC := Lib.hid c0
  have HBW := Lib.hid hbw
  have q0 := cellH c0 0
  have q1 := cellH c0 1
  have qf := freeH c0
  simp only [List.getElem?_toArray, List.getElem?_cons_zero, List.getElem?_cons_succ] at q0 q1
  clear hb2 c0 hbw
  go_wp2_with fail
  obtain ⟨z1, z2⟩ := set2 HC.out HBW.out (Nat.le_refl _) (.int .i64 n) (.int .i64 (-450))
  refine bodyPost_ret (results_cell_row Tryz.results128 _ _ w.heap.size 65 #[.int .i64 n, .int .i64 (-450)] (0, 0) _ rfl z1 Tryz.underlying65 rfl info_pl2) rfl ?_
  exact ⟨rfl, z2⟩
set_option maxRecDepth 100000 in
theorem sides_any (w : World) : Calls Tryz.prog 94 #[] w fun e w' => ∃ b, e = .returned (.agg #[sdE, sdN b, sdW (b + 1), sdS (b + 1 + 1)]) ∧ Sds b w' ∧ Below w.heap.size w w' := by
  have HX := Lib.hid (cells4 w #[sdE, sdN (w.heap.size + 1), sdW (w.heap.size + 1 + 1), sdS (w.heap.size + 1 + 1 + 1)] #[sdE] #[sdN (w.heap.size + 1)] #[sdW (w.heap.size + 1 + 1)] 164 80 80 80 (Below.refl _ _))
  go_enter Tryz.func94, Tryz.ntmps94
  go_wp2_with fail
  refine bodyPost_ret (results_cell_row Tryz.results94 _ _ w.heap.size 164 #[sdE, sdN (w.heap.size + 1), sdW (w.heap.size + 1 + 1), sdS (w.heap.size + 1 + 1 + 1)] (0, 0) _ rfl HX.out.1 Tryz.underlying164 rfl (by kernel_rfl)) rfl ?_
  exact ⟨w.heap.size + 1, rfl, ⟨HX.out.2.1, HX.out.2.2.1, HX.out.2.2.2.1⟩, HX.out.2.2.2.2.2⟩
/-- The vector of a division. -/
def vcX (n : Int) : Int := if (n + 450) % 3600 < 900 then 450 else if (n + 450) % 3600 < 1800 then 900 - (n + 450) % 3600 + 450 else if (n + 450) % 3600 < 2700 then -450 else (n + 450) % 3600 - 3150
def vcY (n : Int) : Int := if (n + 450) % 3600 < 900 then (n + 450) % 3600 - 450 else if (n + 450) % 3600 < 1800 then 450 else if (n + 450) % 3600 < 2700 then 1800 - (n + 450) % 3600 + 450 else -450
theorem vc_q (q m : Int) (hq : q = 0 ∨ q = 1 ∨ q = 2 ∨ q = 3) (h1 : 900 * q ≤ m) (h2 : m < 900 * q + 900) : m.tdiv 900 = q ∧ m.tmod 900 = m - 900 * q := by
  rw [Int.tdiv_eq_ediv_of_nonneg (by omega), Int.tmod_eq_emod_of_nonneg (by omega)]; omega
theorem side_ix (a b c d : Value) (w : World) : ((Instr.index 164 (.agg #[a, b, c, d]) (.int .i64 0)).run Tryz.prog w = .ok a w ∧ (Instr.index 164 (.agg #[a, b, c, d]) (.int .i64 1)).run Tryz.prog w = .ok b w) ∧ (Instr.index 164 (.agg #[a, b, c, d]) (.int .i64 2)).run Tryz.prog w = .ok c w ∧ (Instr.index 164 (.agg #[a, b, c, d]) (.int .i64 3)).run Tryz.prog w = .ok d w :=
  ⟨⟨by kernel_rfl, by kernel_rfl⟩, by kernel_rfl, by kernel_rfl⟩
set_option maxRecDepth 100000 in
set_option maxHeartbeats 1000000 in
theorem Vector_any (n : Int) (w : World) : Calls Tryz.prog 34 #[.int .i64 n] w fun e w' => e = .returned (.agg #[.int .i64 (vcX n), .int .i64 (vcY n)]) ∧ Below w.heap.size w w' := by
  obtain ⟨h1, h2, _, h4, _⟩ := tmod_c (n := n)
  obtain ⟨r, hr⟩ : ∃ r, n.tmod 3600 = r := ⟨_, rfl⟩
  rw [hr] at h1 h2 h4
  have e1 : IntKind.i64.wrap r = r := IntWalk.i64_in _ (by omega)
  have e2 : IntKind.i64.wrap (r + 450) = r + 450 := IntWalk.i64_in _ (by omega)
  have HT := Lib.hid (fun w' => qturn_any (r + 450) w')
  have hm : (r + 450) % 3600 = (n + 450) % 3600 := by omega
  have HX : Hid (vcX n = _) := Lib.hid (vcX.eq_1 n)
  have HY : Hid (vcY n = _) := Lib.hid (vcY.eq_1 n)
  rw [hm] at HT
  obtain ⟨m, hmm⟩ : ∃ m, (n + 450) % 3600 = m := ⟨_, rfl⟩
  have hm0 : 0 ≤ m ∧ m < 3600 := by omega
  rw [hmm] at HT HX HY
  have HA := Lib.hid (fun W' => cells1 w #[.int .i64 0, .int .i64 0] 65 (W := W'))
  have HB0 := Lib.hid ((Below.refl (w.alloc (.cells #[.int .i64 0, .int .i64 0] 65)).heap.size (w.alloc (.cells #[.int .i64 0, .int .i64 0] 65))))
  obtain ⟨Z, hZ⟩ : ∃ Z, w.alloc (.cells #[.int .i64 0, .int .i64 0] 65) = Z := ⟨_, rfl⟩
  rw [hZ] at HA HB0
  have HZ := Lib.hid hZ
  have HM0 := Lib.hid hm0
  clear h1 h2 h4 hm hmm hZ hm0
  go_enter Tryz.func34, Tryz.ntmps34
  go_wp2_with fail
  rw [HZ.out]
  refine (HT.out Z).mono ?_
  rintro e w1 ⟨rfl, rfl⟩
  clear hr e1 e2
  go_wp2_with fail
  refine (sides_any _).mono ?_
  rintro e w2 ⟨b, rfl, hs, hb2⟩
  have HS := Lib.hid hs
  have HB2 := Lib.hid (HB0.out.trans (hb2.mono HB0.out.size))
  clear hs hb2
  have hm0 := HM0.out
  obtain ⟨q, hq, hq1, hq2⟩ : ∃ q : Int, (q = 0 ∨ q = 1 ∨ q = 2 ∨ q = 3) ∧ 900 * q ≤ m ∧ m < 900 * q + 900 := ⟨m / 900, by omega, by omega, by omega⟩
  obtain ⟨d1, d2⟩ := vc_q q m hq hq1 hq2
  have e3 : IntKind.i64.wrap (m - 900 * q) = m - 900 * q := IntWalk.i64_in _ (by omega)
  have e4 : IntKind.i64.wrap (m - 900 * q - 450) = m - 900 * q - 450 := IntWalk.i64_in _ (by omega)
  have HLIM := Lib.hid (show -450 ≤ m - 900 * q - 450 ∧ m - 900 * q - 450 ≤ 450 by omega)
  have key : ∀ (x y : Int) (V : Value), V = .agg #[.int .i64 x, .int .i64 y] → True := fun _ _ _ _ => trivial
  clear hm0 key
  have HQ1 := Lib.hid hq1
  have HQ2 := Lib.hid hq2
  clear hq1 hq2
  rcases hq with rfl | rfl | rfl | rfl
  · simp only [Int.reduceMul, Int.sub_zero, Int.mul_zero] at d1 d2 e3 e4 HLIM HQ1 HQ2
    have hix := (side_ix (.func (.func 124) #[] #[]) (sdN b) (sdW (b + 1)) (sdS (b + 1 + 1)) w2).1.1
    have hsd : sdE = .func (.func 124) #[] #[] := rfl
    have H5 := Lib.hid (side1_any (m - 450) w2)
    go_wp2_with fail
    refine H5.out.mono ?_
    rintro e w3 ⟨rfl, hb3⟩
    have HB3 := Lib.hid (HB2.out.trans (hb3.mono HB2.out.size))
    obtain ⟨c0, _, hbw⟩ := HA.out w3 HB3.out
    have HC := Lib.hid c0
    have HBW := Lib.hid hbw
    have q0 := cellH c0 0
    have q1 := cellH c0 1
    have qf := freeH c0
    simp only [List.getElem?_toArray, List.getElem?_cons_zero, List.getElem?_cons_succ] at q0 q1
    clear hb3 c0 hbw hix hsd d1 d2 e3 e4
    go_wp2_with fail
    obtain ⟨z1, z2⟩ := set2 HC.out HBW.out (Nat.le_refl _) (.int .i64 450) (.int .i64 (m - 450))
    refine bodyPost_ret (results_cell_row Tryz.results34 _ _ w.heap.size 65 #[.int .i64 450, .int .i64 (m - 450)] (0, 0) _ rfl z1 Tryz.underlying65 rfl info_pl2) rfl ?_
    refine ⟨?_, z2⟩
    have h1 := HQ1.out
    have h2 := HQ2.out
    have h3 := HM0.out
    refine ret_val' ?_
    rw [HX.out, HY.out]
    rw [if_pos (by omega), if_pos (by omega)]
  · simp only [Int.reduceMul, Int.sub_zero, Int.mul_zero] at d1 d2 e3 e4 HLIM HQ1 HQ2
    have hix := (side_ix sdE (.func (.func 125) #[] #[.pointer (some ⟨b, 0, none⟩)]) (sdW (b + 1)) (sdS (b + 1 + 1)) w2).1.2
    have hsd : sdN b = .func (.func 125) #[] #[.pointer (some ⟨b, 0, none⟩)] := rfl
    have H5 := Lib.hid (side2_any b (m - 900 - 450) w2 HS.out HLIM.out)
    go_wp2_with fail
    refine H5.out.mono ?_
    rintro e w3 ⟨rfl, hb3⟩
    have HB3 := Lib.hid (HB2.out.trans (hb3.mono HB2.out.size))
    obtain ⟨c0, _, hbw⟩ := HA.out w3 HB3.out
    have HC := Lib.hid c0
    have HBW := Lib.hid hbw
    have q0 := cellH c0 0
    have q1 := cellH c0 1
    have qf := freeH c0
    simp only [List.getElem?_toArray, List.getElem?_cons_zero, List.getElem?_cons_succ] at q0 q1
    clear hb3 c0 hbw hix hsd d1 d2 e3 e4
    go_wp2_with fail
    obtain ⟨z1, z2⟩ := set2 HC.out HBW.out (Nat.le_refl _) (.int .i64 (-(m - 900 - 450))) (.int .i64 450)
    refine bodyPost_ret (results_cell_row Tryz.results34 _ _ w.heap.size 65 #[.int .i64 (-(m - 900 - 450)), .int .i64 450] (0, 0) _ rfl z1 Tryz.underlying65 rfl info_pl2) rfl ?_
    refine ⟨?_, z2⟩
    have h1 := HQ1.out
    have h2 := HQ2.out
    have h3 := HM0.out
    refine ret_val' ?_
    rw [HX.out, HY.out]
    rw [if_neg (by omega), if_pos (by omega), if_neg (by omega), if_pos (by omega), show 900 - m + 450 = -(m - 900 - 450) by omega]
  · simp only [Int.reduceMul, Int.sub_zero, Int.mul_zero] at d1 d2 e3 e4 HLIM HQ1 HQ2
    have hix := (side_ix sdE (sdN b) (.func (.func 127) #[] #[.pointer (some ⟨b + 1, 0, none⟩)]) (sdS (b + 1 + 1)) w2).2.1
    have hsd : sdW (b + 1) = .func (.func 127) #[] #[.pointer (some ⟨b + 1, 0, none⟩)] := rfl
    have H5 := Lib.hid (side3_any b (m - 1800 - 450) w2 HS.out HLIM.out)
    go_wp2_with fail
    refine H5.out.mono ?_
    rintro e w3 ⟨rfl, hb3⟩
    have HB3 := Lib.hid (HB2.out.trans (hb3.mono HB2.out.size))
    obtain ⟨c0, _, hbw⟩ := HA.out w3 HB3.out
    have HC := Lib.hid c0
    have HBW := Lib.hid hbw
    have q0 := cellH c0 0
    have q1 := cellH c0 1
    have qf := freeH c0
    simp only [List.getElem?_toArray, List.getElem?_cons_zero, List.getElem?_cons_succ] at q0 q1
    clear hb3 c0 hbw hix hsd d1 d2 e3 e4
    go_wp2_with fail
    obtain ⟨z1, z2⟩ := set2 HC.out HBW.out (Nat.le_refl _) (.int .i64 (-450)) (.int .i64 (-(m - 1800 - 450)))
    refine bodyPost_ret (results_cell_row Tryz.results34 _ _ w.heap.size 65 #[.int .i64 (-450), .int .i64 (-(m - 1800 - 450))] (0, 0) _ rfl z1 Tryz.underlying65 rfl info_pl2) rfl ?_
    refine ⟨?_, z2⟩
    have h1 := HQ1.out
    have h2 := HQ2.out
    have h3 := HM0.out
    refine ret_val' ?_
    rw [HX.out, HY.out]
    rw [if_neg (by omega), if_neg (by omega), if_pos (by omega), if_neg (by omega), if_neg (by omega), if_pos (by omega), show 1800 - m + 450 = -(m - 1800 - 450) by omega]
  · simp only [Int.reduceMul, Int.sub_zero, Int.mul_zero] at d1 d2 e3 e4 HLIM HQ1 HQ2
    have hix := (side_ix sdE (sdN b) (sdW (b + 1)) (.func (.func 128) #[] #[.pointer (some ⟨b + 1 + 1, 0, none⟩)]) w2).2.2
    have hsd : sdS (b + 1 + 1) = .func (.func 128) #[] #[.pointer (some ⟨b + 1 + 1, 0, none⟩)] := rfl
    have H5 := Lib.hid (side4_any b (m - 2700 - 450) w2 HS.out HLIM.out)
    go_wp2_with fail
    refine H5.out.mono ?_
    rintro e w3 ⟨rfl, hb3⟩
    have HB3 := Lib.hid (HB2.out.trans (hb3.mono HB2.out.size))
    obtain ⟨c0, _, hbw⟩ := HA.out w3 HB3.out
    have HC := Lib.hid c0
    have HBW := Lib.hid hbw
    have q0 := cellH c0 0
    have q1 := cellH c0 1
    have qf := freeH c0
    simp only [List.getElem?_toArray, List.getElem?_cons_zero, List.getElem?_cons_succ] at q0 q1
    clear hb3 c0 hbw hix hsd d1 d2 e3 e4
    go_wp2_with fail
    obtain ⟨z1, z2⟩ := set2 HC.out HBW.out (Nat.le_refl _) (.int .i64 (m - 2700 - 450)) (.int .i64 (-450))
    refine bodyPost_ret (results_cell_row Tryz.results34 _ _ w.heap.size 65 #[.int .i64 (m - 2700 - 450), .int .i64 (-450)] (0, 0) _ rfl z1 Tryz.underlying65 rfl info_pl2) rfl ?_
    refine ⟨?_, z2⟩
    have h1 := HQ1.out
    have h2 := HQ2.out
    have h3 := HM0.out
    refine ret_val' ?_
    rw [HX.out, HY.out]
    rw [if_neg (by omega), if_neg (by omega), if_neg (by omega), if_neg (by omega), if_neg (by omega), if_neg (by omega), show m - 3150 = m - 2700 - 450 by omega]
end Go.Proofs.YtebdboacmeafaaaGreat
/- Package circle: bearingOf, Division; what a bearing is in plain words. -/
set_option linter.unusedVariables false
set_option linter.unusedSimpArgs false
namespace Go.Proofs.YtebdboacmeafaaaGreat
open Go Go.RowKit

theorem plEq (a b c d : Int) (w : World) : (binOp .eql 65 (.agg #[.int .i64 a, .int .i64 b]) (.agg #[.int .i64 c, .int .i64 d])).run Tryz.prog w = .ok (.bool (a == c && b == d)) w := by
  have u3 := Tryz.underlying3
  have a3 := Tryz.isAgg3
  have z3 := Tryz.sizeOf3
  have hS : Tryz.prog.underlying 65 = some (.struct (Tryz.prog.fieldsOf 65)) := by kernel_rfl
  have hp : Tryz.prog.stoodInHeld 65 = false := by kernel_rfl
  rw [run_eql_struct, show (10000 : Nat) = 9999 + 1 from rfl, run_equalIn_agg w 9999 65 _ _ hS hp]
  simp only [Program.fieldsOf, Tryz.underlying65]
  go_simp
  by_cases h1 : a = c <;> by_cases h2 : b = d <;> simp [h1, h2]

/-! Bearings. -/
def twD (x y : Int) : Int := max (max x (-x)) (max y (-y))
def twM (x y : Int) : Int :=
  if max y (-y) ≤ x then 450 * y else if max x (-x) ≤ y then 900 * y - 450 * x else if max y (-y) ≤ -x then 1800 * max x (-x) - 450 * y else 2700 * max y (-y) + 450 * x
def twN (x y : Int) : Int := if twM x y < 0 then twM x y + 3600 * twD x y else twM x y
theorem tw_ok {x y : Int} (hx : -48 ≤ x ∧ x ≤ 48) (hy : -48 ≤ y ∧ y ≤ 48) (h : ¬ (x = 0 ∧ y = 0)) : 1 ≤ twD x y ∧ twD x y ≤ 48 ∧ 0 ≤ twN x y ∧ twN x y < 3600 * twD x y ∧ -(450 * twD x y) ≤ twM x y := by
  have hd : 1 ≤ twD x y ∧ twD x y ≤ 48 := by unfold twD; omega
  have hm : -(450 * twD x y) ≤ twM x y ∧ twM x y < 3600 * twD x y := by
    unfold twM twD at *
    split
    · omega
    · split
      · omega
      · split <;> omega
  refine ⟨hd.1, hd.2, ?_, ?_, hm.1⟩
  · unfold twN; split <;> omega
  · unfold twN; split <;> omega
/-- Two different places of the map. -/
def brB (a b c d : Int) : Bool := omB a b && omB c d && !(a == c && b == d)
theorem brB_ok {a b c d : Int} (h : brB a b c d = true) : ((0 ≤ a ∧ a ≤ 48) ∧ 0 ≤ b ∧ b ≤ 48) ∧ ((0 ≤ c ∧ c ≤ 48) ∧ 0 ≤ d ∧ d ≤ 48) ∧ ¬ (c - a = 0 ∧ d - b = 0) := by
  unfold brB at h
  simp only [Bool.and_eq_true, Bool.not_eq_true', om_iff] at h
  obtain ⟨⟨h1, h2⟩, h3⟩ := h
  refine ⟨h1, h2, fun hh => ?_⟩
  rw [show a = c by omega, show b = d by omega] at h3
  simp at h3
def brDn (a b c d : Int) : Int := if brB a b c d = true then twN (c - a) (d - b) / twD (c - a) (d - b) else 0
def brUp (a b c d : Int) : Int := if brB a b c d = true then (twN (c - a) (d - b) + twD (c - a) (d - b) - 1) / twD (c - a) (d - b) else 0
theorem info_br2 : (Tryz.prog.info? 155).map (·.size) = some 2 := by kernel_rfl
/-- How a vector was turned. -/
def TuR (x y X Y M : Int) : Prop := (M = 0 ∧ X = x ∧ Y = y) ∨ (M = 900 ∧ X = y ∧ Y = -x ∧ ¬ (max y (-y) ≤ x)) ∨ (M = 1800 ∧ X = -x ∧ Y = -y ∧ ¬ (max y (-y) ≤ x) ∧ ¬ (max x (-x) ≤ y)) ∨ (M = 2700 ∧ X = -y ∧ Y = x ∧ ¬ (max y (-y) ≤ x) ∧ ¬ (max x (-x) ≤ y) ∧ ¬ (max y (-y) ≤ -x))
theorem TuR.bd {x y X Y M : Int} (h : TuR x y X Y M) (hx : -48 ≤ x ∧ x ≤ 48) (hy : -48 ≤ y ∧ y ≤ 48) : (-48 ≤ X ∧ X ≤ 48) ∧ (-48 ≤ Y ∧ Y ≤ 48) ∧ 0 ≤ M ∧ M ≤ 2700 := by
  rcases h with ⟨rfl, rfl, rfl⟩ | ⟨rfl, rfl, rfl, _⟩ | ⟨rfl, rfl, rfl, _⟩ | ⟨rfl, rfl, rfl, _⟩ <;> omega
theorem TuR.next {x y X Y M : Int} (h : TuR x y X Y M) (hc : Y > X ∨ -Y > X) : TuR x y Y (-X) (M + 900) ∧ M + 900 ≤ 2700 := by
  rcases h with ⟨rfl, rfl, rfl⟩ | ⟨rfl, rfl, rfl, k1⟩ | ⟨rfl, rfl, rfl, k1, k2⟩ | ⟨rfl, rfl, rfl, k1, k2, k3⟩
  · refine ⟨.inr (.inl ⟨rfl, rfl, rfl, by omega⟩), by omega⟩
  · refine ⟨.inr (.inr (.inl ⟨rfl, rfl, rfl, k1, by omega⟩)), by omega⟩
  · refine ⟨.inr (.inr (.inr ⟨rfl, rfl, by omega, k1, k2, by omega⟩)), by omega⟩
  · omega
theorem TuR.done {x y X Y M : Int} (h : TuR x y X Y M) (hc : ¬ Y > X) (hc2 : ¬ -Y > X) : 450 * Y + M * X = twM x y ∧ X = twD x y := by
  unfold twM twD
  rcases h with ⟨rfl, rfl, rfl⟩ | ⟨rfl, rfl, rfl, k1⟩ | ⟨rfl, rfl, rfl, k1, k2⟩ | ⟨rfl, rfl, rfl, k1, k2, k3⟩
  · rw [if_pos (by omega)]; omega
  · rw [if_neg (by omega), if_pos (by omega)]; omega
  · rw [if_neg (by omega), if_neg (by omega), if_pos (by omega)]; omega
  · rw [if_neg (by omega), if_neg (by omega), if_neg (by omega)]; omega
set_option maxRecDepth 100000 in
set_option maxHeartbeats 4000000 in
theorem bearingOf_any (a b c d : Int) (w : World) : Calls Tryz.prog 85 #[.agg #[.int .i64 a, .int .i64 b], .agg #[.int .i64 c, .int .i64 d]] w fun e w' => e = .returned (.tuple #[.agg #[.int .i64 (brDn a b c d), .int .i64 (brUp a b c d)], .bool (brB a b c d)]) ∧ Below w.heap.size w w' := by
  have H1 := Lib.hid (fun w' => onMap_any a b w')
  have H2 := Lib.hid (fun w' => onMap_any c d w')
  have HBO := Lib.hid (brB_ok (a := a) (b := b) (c := c) (d := d))
  have HDN : Hid (brDn a b c d = if brB a b c d = true then twN (c - a) (d - b) / twD (c - a) (d - b) else 0) := Lib.hid rfl
  have HUP : Hid (brUp a b c d = if brB a b c d = true then (twN (c - a) (d - b) + twD (c - a) (d - b) - 1) / twD (c - a) (d - b) else 0) := Lib.hid rfl
  have HBB : Hid (brB a b c d = (omB a b && omB c d && !(a == c && b == d))) := Lib.hid rfl
  obtain ⟨b1, hb1⟩ : ∃ z, omB a b = z := ⟨_, rfl⟩
  obtain ⟨b2, hb2⟩ : ∃ z, omB c d = z := ⟨_, rfl⟩
  obtain ⟨b3, hb3⟩ : ∃ z, (a == c && b == d) = z := ⟨_, rfl⟩
  obtain ⟨ok, hok⟩ : ∃ z, brB a b c d = z := ⟨_, rfl⟩
  obtain ⟨dn, hdn⟩ : ∃ z, brDn a b c d = z := ⟨_, rfl⟩
  obtain ⟨up, hup⟩ : ∃ z, brUp a b c d = z := ⟨_, rfl⟩
  rw [hb1] at H1 HBB
  rw [hb2] at H2 HBB
  rw [hb3] at HBB
  have HB3 := Lib.hid hb3
  rw [hdn] at HDN ⊢
  rw [hup] at HUP ⊢
  rw [hok] at HBO HBB HDN HUP ⊢
  clear hb1 hb2 hb3 hok hdn hup
  have HA := Lib.hid (fun W' => cells3 w #[.int .i64 a, .int .i64 b] #[.int .i64 c, .int .i64 d] #[.int .i64 0, .int .i64 0] 65 65 155 (W := W'))
  have HB0 := Lib.hid (Below.refl (((w.alloc (.cells #[.int .i64 a, .int .i64 b] 65)).alloc (.cells #[.int .i64 c, .int .i64 d] 65)).alloc (.cells #[.int .i64 0, .int .i64 0] 155)).heap.size (((w.alloc (.cells #[.int .i64 a, .int .i64 b] 65)).alloc (.cells #[.int .i64 c, .int .i64 d] 65)).alloc (.cells #[.int .i64 0, .int .i64 0] 155)))
  obtain ⟨Z, hZ⟩ : ∃ Z, (((w.alloc (.cells #[.int .i64 a, .int .i64 b] 65)).alloc (.cells #[.int .i64 c, .int .i64 d] 65)).alloc (.cells #[.int .i64 0, .int .i64 0] 155)) = Z := ⟨_, rfl⟩
  rw [hZ] at HA HB0
  have HZ := Lib.hid hZ
  clear hZ
  have HFIN : Hid (∀ W', Below Z.heap.size Z W' → W'.cell? ⟨w.heap.size, 0, none⟩ = some (.int .i64 a) ∧ W'.cell? ⟨w.heap.size, 1, none⟩ = some (.int .i64 b) ∧ W'.cell? ⟨w.heap.size + 1, 0, none⟩ = some (.int .i64 c) ∧ W'.cell? ⟨w.heap.size + 1, 1, none⟩ = some (.int .i64 d) ∧ W'.cell? ⟨w.heap.size + 1 + 1, 0, none⟩ = some (.int .i64 0) ∧ W'.cell? ⟨w.heap.size + 1 + 1, 1, none⟩ = some (.int .i64 0) ∧ (∀ o, W'.frozen? ⟨w.heap.size + 1 + 1, o, none⟩ = false) ∧ w.heap.size + 1 + 1 < W'.heap.size) := Lib.hid (fun W' h => by
    obtain ⟨x1, x2, x3, x4, x5⟩ := HA.out W' h
    exact ⟨cellH x1 0, cellH x1 1, cellH x2 0, cellH x2 1, cellH x3 0, cellH x3 1, freeH x3, x4⟩)
  go_enter Tryz.func85, Tryz.ntmps85
  go_wp2_with fail
  rw [HZ.out]
  refine (H1.out Z).mono ?_
  rintro e w1 ⟨rfl, hb⟩
  have HB1 := Lib.hid hb
  obtain ⟨q1, q2, q3, q4, q5, q6, q7, q8⟩ := HFIN.out w1 hb
  clear hb
  cases b1
  · have HOK : Hid (ok = false) := Lib.hid (by rw [HBB.out]; rfl)
    go_wp2_with fail
    obtain ⟨_, _, z0, _, zb⟩ := HA.out w1 HB1.out
    obtain ⟨z1, z2⟩ := set2 z0 zb (by omega) (.int .i64 0) (.int .i64 0)
    refine bodyPost_ret (res_ct Tryz.results85 _ _ (w.heap.size + 1 + 1) 155 #[.int .i64 0, .int .i64 0] (0, 0) _ rfl z1 Tryz.underlying155 rfl info_br2) rfl ?_
    exact ⟨by rw [HDN.out, HUP.out, HOK.out]; rfl, z2⟩
  go_wp2_with fail
  refine (H2.out w1).mono ?_
  rintro e w2 ⟨rfl, hb⟩
  have HB2 := Lib.hid (HB1.out.trans (hb.mono HB1.out.size))
  clear hb q1 q2 q3 q4 q5 q6 q7 q8
  obtain ⟨q1, q2, q3, q4, q5, q6, q7, q8⟩ := HFIN.out w2 HB2.out
  cases b2
  · have HOK : Hid (ok = false) := Lib.hid (by rw [HBB.out]; rfl)
    go_wp2_with fail
    obtain ⟨_, _, z0, _, zb⟩ := HA.out w2 HB2.out
    obtain ⟨z1, z2⟩ := set2 z0 zb (by omega) (.int .i64 0) (.int .i64 0)
    refine bodyPost_ret (res_ct Tryz.results85 _ _ (w.heap.size + 1 + 1) 155 #[.int .i64 0, .int .i64 0] (0, 0) _ rfl z1 Tryz.underlying155 rfl info_br2) rfl ?_
    exact ⟨by rw [HDN.out, HUP.out, HOK.out]; rfl, z2⟩
  cases b3
  case true =>
    have g3 := HB3.out
    rw [Bool.and_eq_true] at g3
    obtain ⟨g1, g2⟩ := g3
    have HOK : Hid (ok = false) := Lib.hid (by rw [HBB.out]; rfl)
    clear HB3
    go_wp2_with fail
    obtain ⟨_, _, z0, _, zb⟩ := HA.out w2 HB2.out
    obtain ⟨z1, z2⟩ := set2 z0 zb (by omega) (.int .i64 0) (.int .i64 0)
    refine bodyPost_ret (res_ct Tryz.results85 _ _ (w.heap.size + 1 + 1) 155 #[.int .i64 0, .int .i64 0] (0, 0) _ rfl z1 Tryz.underlying155 rfl info_br2) rfl ?_
    exact ⟨by rw [HDN.out, HUP.out, HOK.out]; rfl, z2⟩
  have HOK : Hid (ok = true) := Lib.hid (by rw [HBB.out]; rfl)
  obtain ⟨k1, k2, k3⟩ := HBO.out HOK.out
  obtain ⟨x, hx⟩ : ∃ x, c - a = x := ⟨_, rfl⟩
  obtain ⟨y, hy⟩ : ∃ y, d - b = y := ⟨_, rfl⟩
  rw [hx, hy] at HDN HUP
  have hx2 : -48 ≤ x ∧ x ≤ 48 := by omega
  have hy2 : -48 ≤ y ∧ y ≤ 48 := by omega
  have HT := Lib.hid (tw_ok hx2 hy2 (by omega))
  have HXY := Lib.hid (show (-48 ≤ x ∧ x ≤ 48) ∧ -48 ≤ y ∧ y ≤ 48 from ⟨hx2, hy2⟩)
  have e1 : IntKind.i64.wrap x = x := IntWalk.i64_in _ (by omega)
  have e2 : IntKind.i64.wrap y = y := IntWalk.i64_in _ (by omega)
  have HV0 : Hid ((w2.alloc (.cells #[.int .i64 x, .int .i64 y] 65)).heap[w2.heap.size]? = some (Obj.cells #[.int .i64 x, .int .i64 y] 65 (0, 0))) := Lib.hid (heap_alloc_new _ _)
  have HBV := Lib.hid (HB2.out.alloc HB2.out.size (.cells #[.int .i64 x, .int .i64 y] 65))
  obtain ⟨vb, hvb⟩ : ∃ z, w2.heap.size = z := ⟨_, rfl⟩
  have HVB : Hid (w.heap.size + 1 + 1 < vb) := Lib.hid (by omega)
  clear k1 k2 k3 hx2 hy2
  have hcase : ((a == c) = true ∧ (b == d) = false) ∨ (a == c) = false := by
    have g3 := HB3.out
    cases g1 : (a == c)
    · exact .inr rfl
    · rw [g1] at g3; exact .inl ⟨rfl, by simpa using g3⟩
  clear HB3
  rw [hvb] at HV0
  have HV2 : Hid (∀ W, Below Z.heap.size Z W → vb < W.heap.size → W.heap[w.heap.size + 1 + 1]? = some (Obj.cells #[.int .i64 0, .int .i64 0] 155 (0, 0)) ∧ Below w.heap.size w W) := Lib.hid (fun W h _ => by obtain ⟨_, _, x3, _, x5⟩ := HA.out W h; exact ⟨x3, x5⟩)
  have HZV : Hid (Z.heap.size ≤ vb) := Lib.hid (by rw [← hvb]; exact HB2.out.size)
  have HQUO : Hid (∀ n m : Int, 0 ≤ n → 1 ≤ m → n.tdiv m = n / m) := Lib.hid (fun n m h _ => Int.tdiv_eq_ediv_of_nonneg h)
  rcases hcase with ⟨g1, g2⟩ | g1
  all_goals
    go_wp2_with fail
    try clear g2
    clear g1 q1 q2 q3 q4 q5 q6 q7 q8 e1 e2 hx hy hvb
    go_loopw [7] (fun m wr => ∃ (X Y M : Int), m = .int .i64 M ∧ Hid (TuR x y X Y M) ∧ Hid (wr.heap[vb]? = some (Obj.cells #[.int .i64 X, .int .i64 Y] 65 (0, 0))) ∧ Hid (Below Z.heap.size Z wr)) (fun m _ => (2700 - intOf m).toNat)
    case atStart => exact ⟨x, y, 0, rfl, Lib.hid (.inl ⟨rfl, rfl, rfl⟩), HV0, HBV⟩
    case round =>
      obtain ⟨X, Y, M, rfl, hT, hV, hB⟩ := hrel
      obtain ⟨d1, d2, d3, d4⟩ := hT.out.bd HXY.out.1 HXY.out.2
      have q0 := cellH hV.out 0
      have q1 := cellH hV.out 1
      have qf := freeH hV.out
      have hlt := (Array.getElem?_eq_some_iff.1 hV.out).1
      simp only [List.getElem?_toArray, List.getElem?_cons_zero, List.getElem?_cons_succ] at q0 q1
      have e1 : IntKind.i64.wrap (-Y) = -Y := IntWalk.i64_in _ (by omega)
      have e2 : IntKind.i64.wrap (M + 900) = M + 900 := IntWalk.i64_in _ (by omega)
      have HTR := Lib.hid (fun w' => turnedRight_any X Y w' (by omega))
      have HLIM := Lib.hid (show ((-48 ≤ X ∧ X ≤ 48) ∧ -48 ≤ Y ∧ Y ≤ 48) ∧ 0 ≤ M ∧ M ≤ 2700 from ⟨⟨d1, d2⟩, d3, d4⟩)
      have HGO : Hid ((Y > X ∨ -Y > X) → ∀ w', Below wr.heap.size wr w' → ∃ (X' Y' M' : Int), X' = Y ∧ Y' = -X ∧ M' = M + 900 ∧ M + 900 ≤ 2700 ∧ Hid (TuR x y X' Y' M') ∧ Hid (((w'.setCell ⟨vb, 0, none⟩ (.int .i64 X')).setCell ⟨vb, 1, none⟩ (.int .i64 Y')).heap[vb]? = some (Obj.cells #[.int .i64 X', .int .i64 Y'] 65 (0, 0))) ∧ Hid (Below Z.heap.size Z ((w'.setCell ⟨vb, 0, none⟩ (.int .i64 X')).setCell ⟨vb, 1, none⟩ (.int .i64 Y')))) := Lib.hid (fun hc w' hb => by
        obtain ⟨k1, k2⟩ := hT.out.next hc
        have hv' := (hb.block _ hlt).trans hV.out
        exact ⟨Y, -X, M + 900, rfl, rfl, rfl, k2, Lib.hid k1, Lib.hid (heap_same (heap_same hv' 0 _) 1 _), Lib.hid (((hB.out.trans (hb.mono hB.out.size)).setCell (p := ⟨vb, 0, none⟩) HZV.out _).setCell (p := ⟨vb, 1, none⟩) HZV.out _)⟩)
      have HCE : Hid (∀ w', Below wr.heap.size wr w' → w'.cell? ⟨vb, 0, none⟩ = some (.int .i64 X) ∧ w'.cell? ⟨vb, 1, none⟩ = some (.int .i64 Y) ∧ (∀ o, w'.frozen? ⟨vb, o, none⟩ = false)) := Lib.hid (fun w' hb => by
        have hv' := (hb.block _ hlt).trans hV.out
        exact ⟨cellH hv' 0, cellH hv' 1, freeH hv'⟩)
      clear d1 d2 d3 d4
      by_cases hc1 : X < Y
      · go_wp2_with fail
        refine (HTR.out wr).mono ?_
        rintro e w3 ⟨rfl, hb3⟩
        obtain ⟨X', Y', M', rfl, rfl, rfl, hle, k1, k2, k3⟩ := HGO.out (.inl hc1) w3 hb3
        clear q0 q1 qf
        obtain ⟨q0, q1, qf⟩ := HCE.out w3 hb3
        have HLE := Lib.hid hle
        clear hb3 hle
        go_wp2_with fail
        go_roundw
        case rel => exact ⟨_, _, _, rfl, k1, k2, k3⟩
        case measure => have := HLE.out; have := HLIM.out; simp [intOf]; omega
      · by_cases hc2 : X < -Y
        · go_wp2_with fail
          refine (HTR.out wr).mono ?_
          rintro e w3 ⟨rfl, hb3⟩
          obtain ⟨X', Y', M', rfl, rfl, rfl, hle, k1, k2, k3⟩ := HGO.out (.inr hc2) w3 hb3
          clear q0 q1 qf
          obtain ⟨q0, q1, qf⟩ := HCE.out w3 hb3
          have HLE := Lib.hid hle
          clear hb3 hle
          go_wp2_with fail
          go_roundw
          case rel => exact ⟨_, _, _, rfl, k1, k2, k3⟩
          case measure => have := HLE.out; have := HLIM.out; simp [intOf]; omega
        · obtain ⟨f1, f2⟩ := hT.out.done hc1 hc2
          have HF1 := Lib.hid f1
          have HF2 := Lib.hid f2
          obtain ⟨p, hp⟩ : ∃ p, M * X = p := ⟨_, rfl⟩
          rw [hp] at HF1
          have hpb := HT.out
          have hl := HLIM.out
          obtain ⟨al, hal⟩ : ∃ z, 450 * Y + p = z := ⟨_, rfl⟩
          rw [hal] at HF1
          have hmb : al ≤ 172800 ∧ -172800 ≤ al := by
            have h := hpb.2.2.2
            have h2 := HF1.out
            have h3 : twM x y ≤ twN x y := by unfold twN; split <;> omega
            omega
          have e3 : IntKind.i64.wrap (450 * Y) = 450 * Y := IntWalk.i64_in _ (by omega)
          have e4 : IntKind.i64.wrap p = p := IntWalk.i64_in _ (by omega)
          have e5 : IntKind.i64.wrap al = al := IntWalk.i64_in _ (by omega)
          clear f1 f2 hpb hl HGO HTR
          by_cases hneg : al < 0
          · clear hmb
            have HN : Hid (twN x y = al + 3600 * X) := Lib.hid (by unfold twN; rw [← HF1.out, if_pos hneg, ← HF2.out])
            obtain ⟨nn, hnn⟩ : ∃ z, al + 3600 * X = z := ⟨_, rfl⟩
            have hnb := HT.out
            rw [HN.out, ← HF2.out, hnn] at hnb
            obtain ⟨r1, hr1⟩ : ∃ z, nn / X = z := ⟨_, rfl⟩
            obtain ⟨r2, hr2⟩ : ∃ z, (nn + X - 1) / X = z := ⟨_, rfl⟩
            have t1 : nn.tdiv X = r1 := by rw [Int.tdiv_eq_ediv_of_nonneg (by omega)]; exact hr1
            have t2 : (nn + X - 1).tdiv X = r2 := by rw [Int.tdiv_eq_ediv_of_nonneg (by omega)]; exact hr2
            have HR : Hid (dn = r1 ∧ up = r2) := Lib.hid (by
              rw [HDN.out, HUP.out, HOK.out, if_pos rfl, if_pos rfl, HN.out, ← HF2.out, hnn, hr1, hr2]; exact ⟨rfl, rfl⟩)
            have b1 : 0 ≤ r1 ∧ r1 ≤ 172800 := by rw [← hr1]; exact ⟨Int.ediv_nonneg (by omega) (by omega), Int.le_trans (Int.ediv_le_self _ (by omega)) (by omega)⟩
            have b2 : 0 ≤ r2 ∧ r2 ≤ 172900 := by rw [← hr2]; exact ⟨Int.ediv_nonneg (by omega) (by omega), Int.le_trans (Int.ediv_le_self _ (by omega)) (by omega)⟩
            have v1 : IntKind.i64.wrap r1 = r1 := IntWalk.i64_in _ (by omega)
            have v2 : IntKind.i64.wrap r2 = r2 := IntWalk.i64_in _ (by omega)
            have v3 : IntKind.i64.wrap (nn + X) = nn + X := IntWalk.i64_in _ (by omega)
            have v4 : IntKind.i64.wrap (nn + X - 1) = nn + X - 1 := IntWalk.i64_in _ (by omega)
            have v5 : IntKind.i64.wrap nn = nn := IntWalk.i64_in _ (by omega)
            have v6 : IntKind.i64.wrap (3600 * X) = 3600 * X := IntWalk.i64_in _ (by omega)
            have hX0 : X ≠ 0 := by omega
            have hX0' : (X == 0) = false := by simpa using hX0
            obtain ⟨c3, cb⟩ := HV2.out wr hB.out hlt
            have HRES := Lib.hid c3
            have HBW := Lib.hid cb
            have s0 := cellH (w := wr.drew) c3 0
            have s1 := cellH (w := wr.drew) c3 1
            have sf := freeH (w := wr.drew) c3
            simp only [List.getElem?_toArray, List.getElem?_cons_zero, List.getElem?_cons_succ] at s0 s1
            clear hr1 hr2 b1 b2 hnb c3 cb
            go_wp2_with fail
            go_still_tail 13, (by kernel_rfl)
            change wpList _ _ _ _ _ wr.drew
            obtain ⟨Wd, hWd⟩ : ∃ X, wr.drew = X := ⟨_, rfl⟩
            rw [hWd] at s0 s1 sf ⊢
            have HWD := Lib.hid hWd
            clear hWd
            go_wp2_with fail
            obtain ⟨z1, z2⟩ := set2 (w := w) (W := Wd) (by rw [← HWD.out]; exact HRES.out) (by rw [← HWD.out]; exact HBW.out.drew) (by omega) (.int .i64 r1) (.int .i64 r2)
            refine bodyPost_ret (res_ct Tryz.results85 _ _ (w.heap.size + 1 + 1) 155 #[.int .i64 r1, .int .i64 r2] (0, 0) _ rfl z1 Tryz.underlying155 rfl info_br2) rfl ?_
            exact ⟨by rw [HR.out.1, HR.out.2, HOK.out]; rfl, z2⟩
          · clear hmb
            have HN : Hid (twN x y = al) := Lib.hid (by unfold twN; rw [← HF1.out, if_neg hneg])
            obtain ⟨nn, hnn⟩ : ∃ z, al = z := ⟨_, rfl⟩
            have hnb := HT.out
            rw [HN.out, ← HF2.out, hnn] at hnb
            obtain ⟨r1, hr1⟩ : ∃ z, nn / X = z := ⟨_, rfl⟩
            obtain ⟨r2, hr2⟩ : ∃ z, (nn + X - 1) / X = z := ⟨_, rfl⟩
            have t1 : nn.tdiv X = r1 := by rw [Int.tdiv_eq_ediv_of_nonneg (by omega)]; exact hr1
            have t2 : (nn + X - 1).tdiv X = r2 := by rw [Int.tdiv_eq_ediv_of_nonneg (by omega)]; exact hr2
            have HR : Hid (dn = r1 ∧ up = r2) := Lib.hid (by
              rw [HDN.out, HUP.out, HOK.out, if_pos rfl, if_pos rfl, HN.out, ← HF2.out, hnn, hr1, hr2]; exact ⟨rfl, rfl⟩)
            have b1 : 0 ≤ r1 ∧ r1 ≤ 172800 := by rw [← hr1]; exact ⟨Int.ediv_nonneg (by omega) (by omega), Int.le_trans (Int.ediv_le_self _ (by omega)) (by omega)⟩
            have b2 : 0 ≤ r2 ∧ r2 ≤ 172900 := by rw [← hr2]; exact ⟨Int.ediv_nonneg (by omega) (by omega), Int.le_trans (Int.ediv_le_self _ (by omega)) (by omega)⟩
            have v1 : IntKind.i64.wrap r1 = r1 := IntWalk.i64_in _ (by omega)
            have v2 : IntKind.i64.wrap r2 = r2 := IntWalk.i64_in _ (by omega)
            have v3 : IntKind.i64.wrap (nn + X) = nn + X := IntWalk.i64_in _ (by omega)
            have v4 : IntKind.i64.wrap (nn + X - 1) = nn + X - 1 := IntWalk.i64_in _ (by omega)
            have v5 : IntKind.i64.wrap nn = nn := IntWalk.i64_in _ (by omega)
            have v6 : IntKind.i64.wrap (3600 * X) = 3600 * X := IntWalk.i64_in _ (by omega)
            have hX0 : X ≠ 0 := by omega
            have hX0' : (X == 0) = false := by simpa using hX0
            obtain ⟨c3, cb⟩ := HV2.out wr hB.out hlt
            have HRES := Lib.hid c3
            have HBW := Lib.hid cb
            have s0 := cellH (w := wr.drew) c3 0
            have s1 := cellH (w := wr.drew) c3 1
            have sf := freeH (w := wr.drew) c3
            simp only [List.getElem?_toArray, List.getElem?_cons_zero, List.getElem?_cons_succ] at s0 s1
            clear hr1 hr2 b1 b2 hnb c3 cb
            go_wp2_with fail
            go_still_tail 13, (by kernel_rfl)
            change wpList _ _ _ _ _ wr.drew
            obtain ⟨Wd, hWd⟩ : ∃ X, wr.drew = X := ⟨_, rfl⟩
            rw [hWd] at s0 s1 sf ⊢
            have HWD := Lib.hid hWd
            clear hWd
            go_wp2_with fail
            obtain ⟨z1, z2⟩ := set2 (w := w) (W := Wd) (by rw [← HWD.out]; exact HRES.out) (by rw [← HWD.out]; exact HBW.out.drew) (by omega) (.int .i64 r1) (.int .i64 r2)
            refine bodyPost_ret (res_ct Tryz.results85 _ _ (w.heap.size + 1 + 1) 155 #[.int .i64 r1, .int .i64 r2] (0, 0) _ rfl z1 Tryz.underlying155 rfl info_br2) rfl ?_
            exact ⟨by rw [HR.out.1, HR.out.2, HOK.out]; rfl, z2⟩
end Go.Proofs.YtebdboacmeafaaaGreat
/- Package circle and its reference: Division of both, floor, Toward, bearing. -/
set_option linter.unusedVariables false
set_option linter.unusedSimpArgs false
namespace Go.Proofs.YtebdboacmeafaaaGreat
open Go Go.RowKit

/-- The division of a direction. -/
def dvV (a b c d : Int) : Value := .tuple #[.int .i64 (brDn a b c d), .bool (brB a b c d)]
set_option maxRecDepth 100000 in
theorem Division_any (a b c d : Int) (w : World) : Calls Tryz.prog 29 #[.agg #[.int .i64 a, .int .i64 b], .agg #[.int .i64 c, .int .i64 d]] w fun e w' => e = .returned (dvV a b c d) ∧ Below w.heap.size w w' := by
  have HC := Lib.hid (fun w' => bearingOf_any a b c d w')
  have HA := Lib.hid (fun W' => two_cells w #[.int .i64 a, .int .i64 b] #[.int .i64 c, .int .i64 d] 65 65 (W := W'))
  have HB0 := Lib.hid (Below.refl ((w.alloc (.cells #[.int .i64 a, .int .i64 b] 65)).alloc (.cells #[.int .i64 c, .int .i64 d] 65)).heap.size ((w.alloc (.cells #[.int .i64 a, .int .i64 b] 65)).alloc (.cells #[.int .i64 c, .int .i64 d] 65)))
  unfold dvV
  obtain ⟨dn, hdn⟩ : ∃ z, brDn a b c d = z := ⟨_, rfl⟩
  obtain ⟨up, hup⟩ : ∃ z, brUp a b c d = z := ⟨_, rfl⟩
  obtain ⟨ok, hok⟩ : ∃ z, brB a b c d = z := ⟨_, rfl⟩
  rw [hdn, hup, hok] at HC
  rw [hdn, hok]
  obtain ⟨Z, hZ⟩ : ∃ Z, (w.alloc (.cells #[.int .i64 a, .int .i64 b] 65)).alloc (.cells #[.int .i64 c, .int .i64 d] 65) = Z := ⟨_, rfl⟩
  rw [hZ] at HA HB0
  have HZ := Lib.hid hZ
  clear hZ hdn hup hok
  go_enter Tryz.func29, Tryz.ntmps29
  go_wp2_with fail
  rw [HZ.out]
  refine (HC.out Z).mono ?_
  rintro e w1 ⟨rfl, hb⟩
  have HB1 := Lib.hid (HA.out _ (hb.alloc hb.size (.cells #[.int .i64 dn, .int .i64 up] 155)))
  clear hb
  go_wp2_with fail
  refine bodyPost_ret (results_tmp2 Tryz.results29 _ _ _) rfl ?_
  exact ⟨rfl, HB1.out.2.2.2⟩
theorem floor_core {a b : Int} (hb : 0 < b) : a / b = if a.tmod b < 0 then a.tdiv b - 1 else a.tdiv b := by
  have h1 := Int.tdiv_mul_add_tmod a b
  have h2 := Int.ediv_mul_add_emod a b
  have h3 := Int.emod_nonneg a (show b ≠ 0 by omega)
  have h4 := Int.emod_lt_of_pos a hb
  have h5 : -b < a.tmod b ∧ a.tmod b < b := by
    have h : (a.tmod b).natAbs < b.natAbs := by rw [Int.natAbs_tmod]; exact Nat.mod_lt _ (by omega)
    omega
  generalize a / b = q at *
  generalize a.tdiv b = t at *
  generalize a % b = r at *
  generalize a.tmod b = s at *
  have h6 : (q - t) * b = s - r := by rw [Int.sub_mul]; omega
  have hlt : -2 < q - t := by
    rcases Int.lt_or_le (-2) (q - t) with h | h
    · exact h
    · exfalso
      have := Int.mul_le_mul_of_nonneg_right h (show 0 ≤ b by omega)
      omega
  have hgt : q - t < 1 := by
    rcases Int.lt_or_le (q - t) 1 with h | h
    · exact h
    · exfalso
      have := Int.mul_le_mul_of_nonneg_right h (show 0 ≤ b by omega)
      omega
  split
  · rcases (by omega : q - t = 0 ∨ q - t = -1) with h | h
    · rw [h] at h6; omega
    · omega
  · rcases (by omega : q - t = 0 ∨ q - t = -1) with h | h
    · omega
    · rw [h] at h6; omega
theorem info_pb2 : (Tryz.prog.info? 212).map (·.size) = some 2 := by kernel_rfl
set_option maxRecDepth 100000 in
set_option maxHeartbeats 2000000 in
theorem pToward_any (x y : Int) (w : World) (hx : -48 ≤ x ∧ x ≤ 48) (hy : -48 ≤ y ∧ y ≤ 48) (h0 : ¬ (x = 0 ∧ y = 0)) :
    Calls Tryz.prog 170 #[.int .i64 x, .int .i64 y] w fun e w' => e = .returned (.agg #[.int .i64 (twN x y), .int .i64 (twD x y)]) ∧ Below w.heap.size w w' := by
  have HX := Lib.hid (fun n m : Int => two_cells w #[.int .i64 n, .int .i64 m] #[.int .i64 n, .int .i64 m] 212 212 (Below.refl _ _))
  have hok := tw_ok hx hy h0
  have HN : Hid (twN x y = if twM x y < 0 then twM x y + 3600 * twD x y else twM x y) := Lib.hid rfl
  have HD : Hid (twD x y = max (max x (-x)) (max y (-y))) := Lib.hid rfl
  have HM : Hid (twM x y = if max y (-y) ≤ x then 450 * y else if max x (-x) ≤ y then 900 * y - 450 * x else if max y (-y) ≤ -x then 1800 * max x (-x) - 450 * y else 2700 * max y (-y) + 450 * x) := Lib.hid rfl
  have HOK := Lib.hid hok
  have e1 : IntKind.i64.wrap (-x) = -x := IntWalk.i64_in _ (by omega)
  have e2 : IntKind.i64.wrap (-y) = -y := IntWalk.i64_in _ (by omega)
  have HR := Lib.hid (show (-48 ≤ x ∧ x ≤ 48) ∧ -48 ≤ y ∧ y ≤ 48 from ⟨hx, hy⟩)
  obtain ⟨ax, hax⟩ : ∃ z, max x (-x) = z := ⟨_, rfl⟩
  obtain ⟨ay, hay⟩ : ∃ z, max y (-y) = z := ⟨_, rfl⟩
  have hb : 0 ≤ ax ∧ ax ≤ 48 ∧ 0 ≤ ay ∧ ay ≤ 48 := by omega
  rw [hax, hay] at HD HM
  have f1 : IntKind.i64.wrap (450 * x) = 450 * x := IntWalk.i64_in _ (by omega)
  have f2 : IntKind.i64.wrap (450 * y) = 450 * y := IntWalk.i64_in _ (by omega)
  have f3 : IntKind.i64.wrap (900 * y) = 900 * y := IntWalk.i64_in _ (by omega)
  have f4 : IntKind.i64.wrap (1800 * ax) = 1800 * ax := IntWalk.i64_in _ (by omega)
  have f5 : IntKind.i64.wrap (2700 * ay) = 2700 * ay := IntWalk.i64_in _ (by omega)
  have f6 : IntKind.i64.wrap (900 * y - 450 * x) = 900 * y - 450 * x := IntWalk.i64_in _ (by omega)
  have f7 : IntKind.i64.wrap (1800 * ax - 450 * y) = 1800 * ax - 450 * y := IntWalk.i64_in _ (by omega)
  have f8 : IntKind.i64.wrap (2700 * ay + 450 * x) = 2700 * ay + 450 * x := IntWalk.i64_in _ (by omega)
  have f9 : IntKind.i64.wrap (3600 * x) = 3600 * x := IntWalk.i64_in _ (by omega)
  have f10 : IntKind.i64.wrap (450 * y + 3600 * x) = 450 * y + 3600 * x := IntWalk.i64_in _ (by omega)
  have HAX := Lib.hid (show max x (-x) = ax ∧ max y (-y) = ay from ⟨hax, hay⟩)
  clear hok hx hy h0 hb
  by_cases c1 : ay ≤ x
  · by_cases c5 : 450 * y < 0
    · have HV : Hid (twN x y = 450 * y + 3600 * x ∧ twD x y = x) := Lib.hid (by
        have h1 := HAX.out; have h2 := HM.out; have h3 := HD.out; have h4 := HN.out
        rw [if_pos c1] at h2
        have h5 : twD x y = x := by omega
        rw [h2, if_pos c5, h5] at h4
        exact ⟨h4, h5⟩)
      go_enter Tryz.func170, Tryz.ntmps170
      go_wp2_with fail
      refine bodyPost_ret (results_cell_row Tryz.results170 _ _ w.heap.size 212 #[.int .i64 (450 * y + 3600 * x), .int .i64 (x)] (0, 0) _ rfl (HX.out (450 * y + 3600 * x) (x)).1 Tryz.underlying212 rfl info_pb2) rfl ?_
      exact ⟨by rw [HV.out.1, HV.out.2], (HX.out (450 * y + 3600 * x) (x)).2.2.2⟩
    · have HV : Hid (twN x y = 450 * y ∧ twD x y = x) := Lib.hid (by
        have h1 := HAX.out; have h2 := HM.out; have h3 := HD.out; have h4 := HN.out
        rw [if_pos c1] at h2
        have h5 : twD x y = x := by omega
        rw [h2, if_neg c5] at h4
        exact ⟨h4, h5⟩)
      go_enter Tryz.func170, Tryz.ntmps170
      go_wp2_with fail
      refine bodyPost_ret (results_cell_row Tryz.results170 _ _ w.heap.size 212 #[.int .i64 (450 * y), .int .i64 (x)] (0, 0) _ rfl (HX.out (450 * y) (x)).1 Tryz.underlying212 rfl info_pb2) rfl ?_
      exact ⟨by rw [HV.out.1, HV.out.2], (HX.out (450 * y) (x)).2.2.2⟩
  · by_cases c2 : ax ≤ y
    · have c5 : ¬ 900 * y - 450 * x < 0 := by have h1 := HAX.out; have h2 := HR.out; omega
      have HV : Hid (twN x y = 900 * y - 450 * x ∧ twD x y = y) := Lib.hid (by
        have h1 := HAX.out; have h2 := HM.out; have h3 := HD.out; have h4 := HN.out
        rw [if_neg c1, if_pos c2] at h2
        have h5 : twD x y = y := by omega
        rw [h2, if_neg c5] at h4
        exact ⟨h4, h5⟩)
      go_enter Tryz.func170, Tryz.ntmps170
      go_wp2_with fail
      refine bodyPost_ret (results_cell_row Tryz.results170 _ _ w.heap.size 212 #[.int .i64 (900 * y - 450 * x), .int .i64 (y)] (0, 0) _ rfl (HX.out (900 * y - 450 * x) (y)).1 Tryz.underlying212 rfl info_pb2) rfl ?_
      exact ⟨by rw [HV.out.1, HV.out.2], (HX.out (900 * y - 450 * x) (y)).2.2.2⟩
    · by_cases c3 : ay ≤ -x
      · have c5 : ¬ 1800 * ax - 450 * y < 0 := by have h1 := HAX.out; have h2 := HR.out; omega
        have HV : Hid (twN x y = 1800 * ax - 450 * y ∧ twD x y = ax) := Lib.hid (by
          have h1 := HAX.out; have h2 := HM.out; have h3 := HD.out; have h4 := HN.out
          rw [if_neg c1, if_neg c2, if_pos c3] at h2
          have h5 : twD x y = ax := by omega
          rw [h2, if_neg c5] at h4
          exact ⟨h4, h5⟩)
        go_enter Tryz.func170, Tryz.ntmps170
        go_wp2_with fail
        refine bodyPost_ret (results_cell_row Tryz.results170 _ _ w.heap.size 212 #[.int .i64 (1800 * ax - 450 * y), .int .i64 (ax)] (0, 0) _ rfl (HX.out (1800 * ax - 450 * y) (ax)).1 Tryz.underlying212 rfl info_pb2) rfl ?_
        exact ⟨by rw [HV.out.1, HV.out.2], (HX.out (1800 * ax - 450 * y) (ax)).2.2.2⟩
      · have c5 : ¬ 2700 * ay + 450 * x < 0 := by have h1 := HAX.out; have h2 := HR.out; omega
        have HV : Hid (twN x y = 2700 * ay + 450 * x ∧ twD x y = ay) := Lib.hid (by
          have h1 := HAX.out; have h2 := HM.out; have h3 := HD.out; have h4 := HN.out
          rw [if_neg c1, if_neg c2, if_neg c3] at h2
          have h5 : twD x y = ay := by omega
          rw [h2, if_neg c5] at h4
          exact ⟨h4, h5⟩)
        go_enter Tryz.func170, Tryz.ntmps170
        go_wp2_with fail
        refine bodyPost_ret (results_cell_row Tryz.results170 _ _ w.heap.size 212 #[.int .i64 (2700 * ay + 450 * x), .int .i64 (ay)] (0, 0) _ rfl (HX.out (2700 * ay + 450 * x) (ay)).1 Tryz.underlying212 rfl info_pb2) rfl ?_
        exact ⟨by rw [HV.out.1, HV.out.2], (HX.out (2700 * ay + 450 * x) (ay)).2.2.2⟩
set_option maxRecDepth 100000 in
set_option maxHeartbeats 2000000 in
theorem pbearing_any (a b c d : Int) (w : World) : Calls Tryz.prog 150 #[.agg #[.int .i64 a, .int .i64 b], .agg #[.int .i64 c, .int .i64 d]] w fun e w' => e = .returned (.tuple #[.agg #[.int .i64 (if brB a b c d = true then twN (c - a) (d - b) else 0), .int .i64 (if brB a b c d = true then twD (c - a) (d - b) else 0)], .bool (brB a b c d)]) ∧ Below w.heap.size w w' := by
  have H1 := Lib.hid (fun w' => pOn_any a b w')
  have H2 := Lib.hid (fun w' => pOn_any c d w')
  have HBO := Lib.hid (brB_ok (a := a) (b := b) (c := c) (d := d))
  have HBB : Hid (brB a b c d = (omB a b && omB c d && !(a == c && b == d))) := Lib.hid rfl
  obtain ⟨b1, hb1⟩ : ∃ z, omB a b = z := ⟨_, rfl⟩
  obtain ⟨b2, hb2⟩ : ∃ z, omB c d = z := ⟨_, rfl⟩
  obtain ⟨b3, hb3⟩ : ∃ z, (a == c && b == d) = z := ⟨_, rfl⟩
  obtain ⟨ok, hok⟩ : ∃ z, brB a b c d = z := ⟨_, rfl⟩
  obtain ⟨nu, hnu⟩ : ∃ z, (if brB a b c d = true then twN (c - a) (d - b) else 0) = z := ⟨_, rfl⟩
  obtain ⟨de, hde⟩ : ∃ z, (if brB a b c d = true then twD (c - a) (d - b) else 0) = z := ⟨_, rfl⟩
  rw [hnu, hde]
  rw [hb1] at H1 HBB
  rw [hb2] at H2 HBB
  rw [hb3] at HBB
  rw [hok] at HBO HBB hnu hde ⊢
  have HNU := Lib.hid hnu
  have HDE := Lib.hid hde
  have HB3 := Lib.hid hb3
  clear hb1 hb2 hb3 hok hnu hde
  have HA := Lib.hid (fun W' => cells3 w #[.int .i64 a, .int .i64 b] #[.int .i64 c, .int .i64 d] #[.int .i64 0, .int .i64 0] 65 65 212 (W := W'))
  have HB0 := Lib.hid (Below.refl (((w.alloc (.cells #[.int .i64 a, .int .i64 b] 65)).alloc (.cells #[.int .i64 c, .int .i64 d] 65)).alloc (.cells #[.int .i64 0, .int .i64 0] 212)).heap.size (((w.alloc (.cells #[.int .i64 a, .int .i64 b] 65)).alloc (.cells #[.int .i64 c, .int .i64 d] 65)).alloc (.cells #[.int .i64 0, .int .i64 0] 212)))
  obtain ⟨Z, hZ⟩ : ∃ Z, (((w.alloc (.cells #[.int .i64 a, .int .i64 b] 65)).alloc (.cells #[.int .i64 c, .int .i64 d] 65)).alloc (.cells #[.int .i64 0, .int .i64 0] 212)) = Z := ⟨_, rfl⟩
  rw [hZ] at HA HB0
  have HZ := Lib.hid hZ
  clear hZ
  have HFIN : Hid (∀ W', Below Z.heap.size Z W' → W'.cell? ⟨w.heap.size, 0, none⟩ = some (.int .i64 a) ∧ W'.cell? ⟨w.heap.size, 1, none⟩ = some (.int .i64 b) ∧ W'.cell? ⟨w.heap.size + 1, 0, none⟩ = some (.int .i64 c) ∧ W'.cell? ⟨w.heap.size + 1, 1, none⟩ = some (.int .i64 d) ∧ W'.cell? ⟨w.heap.size + 1 + 1, 0, none⟩ = some (.int .i64 0) ∧ W'.cell? ⟨w.heap.size + 1 + 1, 1, none⟩ = some (.int .i64 0) ∧ (∀ o, W'.frozen? ⟨w.heap.size + 1 + 1, o, none⟩ = false) ∧ w.heap.size + 1 + 1 < W'.heap.size) := Lib.hid (fun W' h => by
    obtain ⟨x1, x2, x3, x4, x5⟩ := HA.out W' h
    exact ⟨cellH x1 0, cellH x1 1, cellH x2 0, cellH x2 1, cellH x3 0, cellH x3 1, freeH x3, x4⟩)
  go_enter Tryz.func150, Tryz.ntmps150
  go_wp2_with fail
  rw [HZ.out]
  refine (H1.out Z).mono ?_
  rintro e w1 ⟨rfl, hb⟩
  have HB1 := Lib.hid hb
  obtain ⟨q1, q2, q3, q4, q5, q6, q7, q8⟩ := HFIN.out w1 hb
  clear hb
  go_wp2_with fail
  refine (H2.out w1).mono ?_
  rintro e w2 ⟨rfl, hb⟩
  have HB2 := Lib.hid (HB1.out.trans (hb.mono HB1.out.size))
  clear hb q1 q2 q3 q4 q5 q6 q7 q8
  obtain ⟨q1, q2, q3, q4, q5, q6, q7, q8⟩ := HFIN.out w2 HB2.out
  cases b1
  · have HOK : Hid (ok = false) := Lib.hid (by rw [HBB.out]; rfl)
    go_wp2_with fail
    obtain ⟨_, _, z0, _, zb⟩ := HA.out w2 HB2.out
    obtain ⟨z1, z2⟩ := set2 z0 zb (by omega) (.int .i64 0) (.int .i64 0)
    refine bodyPost_ret (res_ct Tryz.results150 _ _ (w.heap.size + 1 + 1) 212 #[.int .i64 0, .int .i64 0] (0, 0) _ rfl z1 Tryz.underlying212 rfl info_pb2) rfl ?_
    exact ⟨by rw [← HNU.out, ← HDE.out, HOK.out]; rfl, z2⟩
  cases b2
  · have HOK : Hid (ok = false) := Lib.hid (by rw [HBB.out]; rfl)
    go_wp2_with fail
    obtain ⟨_, _, z0, _, zb⟩ := HA.out w2 HB2.out
    obtain ⟨z1, z2⟩ := set2 z0 zb (by omega) (.int .i64 0) (.int .i64 0)
    refine bodyPost_ret (res_ct Tryz.results150 _ _ (w.heap.size + 1 + 1) 212 #[.int .i64 0, .int .i64 0] (0, 0) _ rfl z1 Tryz.underlying212 rfl info_pb2) rfl ?_
    exact ⟨by rw [← HNU.out, ← HDE.out, HOK.out]; rfl, z2⟩
  cases b3
  case true =>
    have g3 := HB3.out
    rw [Bool.and_eq_true] at g3
    obtain ⟨g1, g2⟩ := g3
    have HOK : Hid (ok = false) := Lib.hid (by rw [HBB.out]; rfl)
    clear HB3
    go_wp2_with fail
    obtain ⟨_, _, z0, _, zb⟩ := HA.out w2 HB2.out
    obtain ⟨z1, z2⟩ := set2 z0 zb (by omega) (.int .i64 0) (.int .i64 0)
    refine bodyPost_ret (res_ct Tryz.results150 _ _ (w.heap.size + 1 + 1) 212 #[.int .i64 0, .int .i64 0] (0, 0) _ rfl z1 Tryz.underlying212 rfl info_pb2) rfl ?_
    exact ⟨by rw [← HNU.out, ← HDE.out, HOK.out]; rfl, z2⟩
  have HOK : Hid (ok = true) := Lib.hid (by rw [HBB.out]; rfl)
  obtain ⟨k1, k2, k3⟩ := HBO.out HOK.out
  obtain ⟨x, hx⟩ : ∃ x, c - a = x := ⟨_, rfl⟩
  obtain ⟨y, hy⟩ : ∃ y, d - b = y := ⟨_, rfl⟩
  rw [hx, hy] at HNU
  rw [hx, hy] at HDE
  have hx2 : -48 ≤ x ∧ x ≤ 48 := by omega
  have hy2 : -48 ≤ y ∧ y ≤ 48 := by omega
  have HTW := Lib.hid (fun w' => pToward_any x y w' hx2 hy2 (by omega))
  have e1 : IntKind.i64.wrap x = x := IntWalk.i64_in _ (by omega)
  have e2 : IntKind.i64.wrap y = y := IntWalk.i64_in _ (by omega)
  have HV : Hid (twN x y = nu ∧ twD x y = de) := Lib.hid (by rw [← HNU.out, ← HDE.out, HOK.out, if_pos rfl, if_pos rfl]; exact ⟨rfl, rfl⟩)
  rw [HV.out.1, HV.out.2] at HTW
  clear k1 k2 k3 hx2 hy2
  have hcase : ((a == c) = true ∧ (b == d) = false) ∨ (a == c) = false := by
    have g3 := HB3.out
    cases g1 : (a == c)
    · exact .inr rfl
    · rw [g1] at g3; exact .inl ⟨rfl, by simpa using g3⟩
  clear HB3
  rcases hcase with ⟨g1, g2⟩ | g1
  all_goals
    go_wp2_with fail
    refine (HTW.out w2).mono ?_
    rintro e w3 ⟨rfl, hb⟩
    have HB3 := Lib.hid (HB2.out.trans (hb.mono HB2.out.size))
    clear hb q1 q2 q3 q4 q5 q6 q7 q8
    obtain ⟨q1, q2, q3, q4, q5, q6, q7, q8⟩ := HFIN.out w3 HB3.out
    go_wp2_with fail
    obtain ⟨_, _, z0, _, zb⟩ := HA.out w3 HB3.out
    obtain ⟨z1, z2⟩ := set2 z0 zb (by omega) (.int .i64 nu) (.int .i64 de)
    refine bodyPost_ret (res_ct Tryz.results150 _ _ (w.heap.size + 1 + 1) 212 #[.int .i64 nu, .int .i64 de] (0, 0) _ rfl z1 Tryz.underlying212 rfl info_pb2) rfl ?_
    exact ⟨by rw [HOK.out]; rfl, z2⟩
end Go.Proofs.YtebdboacmeafaaaGreat
