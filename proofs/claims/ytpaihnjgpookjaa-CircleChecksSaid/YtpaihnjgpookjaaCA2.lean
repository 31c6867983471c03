/- Package circle: blocks that a call lays, turnedLeft, turnedRight, sides, Vector. -/
import Derived.Test.YtpaihnjgpookjaaCA1
set_option linter.unusedVariables false
set_option linter.unusedSimpArgs false
namespace Go.Proofs.Ytpaihnjgpookjaa
open Go Go.RowKit

/-! What lies in blocks that were laid one behind the other. -/
theorem cells1 (w : World) (A : Array Value) (t : TypeId) {W : World} (hb : Below (w.alloc (.cells A t)).heap.size (w.alloc (.cells A t)) W) :
    W.heap[w.heap.size]? = some (.cells A t (0, 0)) ∧ w.heap.size < W.heap.size ∧ Below w.heap.size w W := by
  have s1 : (w.alloc (.cells A t)).heap.size = w.heap.size + 1 := by simp
  refine ⟨?_, ?_, ?_⟩
  · rw [hb.block _ (by omega)]; exact heap_alloc_new _ _
  · have := hb.size; omega
  · exact ((Below.refl _ w).alloc (Nat.le_refl _) _).trans (hb.mono (by omega))
theorem cells3 (w : World) (A B C : Array Value) (t u v : TypeId) {W : World} (hb : Below (((w.alloc (.cells A t)).alloc (.cells B u)).alloc (.cells C v)).heap.size (((w.alloc (.cells A t)).alloc (.cells B u)).alloc (.cells C v)) W) :
    W.heap[w.heap.size]? = some (.cells A t (0, 0)) ∧ W.heap[w.heap.size + 1]? = some (.cells B u (0, 0)) ∧ W.heap[w.heap.size + 1 + 1]? = some (.cells C v (0, 0)) ∧ w.heap.size + 1 + 1 < W.heap.size ∧ Below w.heap.size w W := three_cells w A B C t u v hb
theorem cells4 (w : World) (A B C D : Array Value) (t u v x : TypeId) {W : World} (hb : Below ((((w.alloc (.cells A t)).alloc (.cells B u)).alloc (.cells C v)).alloc (.cells D x)).heap.size ((((w.alloc (.cells A t)).alloc (.cells B u)).alloc (.cells C v)).alloc (.cells D x)) W) :
    W.heap[w.heap.size]? = some (.cells A t (0, 0)) ∧ W.heap[w.heap.size + 1]? = some (.cells B u (0, 0)) ∧ W.heap[w.heap.size + 1 + 1]? = some (.cells C v (0, 0)) ∧ W.heap[w.heap.size + 1 + 1 + 1]? = some (.cells D x (0, 0)) ∧ w.heap.size + 1 + 1 + 1 < W.heap.size ∧ Below w.heap.size w W := by
  have s3 : (((w.alloc (.cells A t)).alloc (.cells B u)).alloc (.cells C v)).heap.size = w.heap.size + 1 + 1 + 1 := by simp
  obtain ⟨h1, h2, h3⟩ := cells1 _ _ _ hb
  rw [s3] at h1 h2
  obtain ⟨k1, k2, k3, _, k5⟩ := cells3 w A B C t u v h3
  exact ⟨k1, k2, k3, h1, h2, k5⟩
theorem res_ct {P : Program} {fn : Func} {p u : Tmp} {ty : TypeId} (h : fn.results = #[.cell p ty, .tmp u]) (tmps : Array Value) (w : World) (g : Nat) (t : TypeId) (cs : Array Value) (fr : Nat × Nat) (d : TypeDesc)
    (hp : tmps.getD p undef = .pointer (some ⟨g, 0, none⟩)) (hg : w.heap[g]? = some (.cells cs t fr))
    (hu : P.underlying ty = some d) (hd : (match d with | .struct _ | .array _ _ => true | _ => false) = true) (hi : (P.info? ty).map (·.size) = some cs.size) :
    (results fn tmps).run P w = .ok (.tuple #[.agg cs, tmps.getD u undef]) w := by
  have hp' : tmps[p]?.getD undef = .pointer (some ⟨g, 0, none⟩) := by simpa using hp
  rw [results_cell_tmp h]
  simp [hp', asAddr, run_loadVar_row w g t ty cs fr d hg hu hd hi, Result.andThen]
theorem set2 {w W : World} {q : Nat} {t : TypeId} {x y : Value} (h : W.heap[q]? = some (Obj.cells #[x, y] t (0, 0))) (hb : Below w.heap.size w W) (hq : w.heap.size ≤ q) (a b : Value) :
    ((W.setCell ⟨q, 0, none⟩ a).setCell ⟨q, 1, none⟩ b).heap[q]? = some (Obj.cells #[a, b] t (0, 0)) ∧ Below w.heap.size w ((W.setCell ⟨q, 0, none⟩ a).setCell ⟨q, 1, none⟩ b) :=
  ⟨heap_same (heap_same h 0 _) 1 _, (hb.setCell (p := ⟨q, 0, none⟩) hq _).setCell (p := ⟨q, 1, none⟩) hq _⟩
theorem set3 {w W : World} {q : Nat} {t : TypeId} {x y z : Value} (h : W.heap[q]? = some (Obj.cells #[x, y, z] t (0, 0))) (hb : Below w.heap.size w W) (hq : w.heap.size ≤ q) (a b c : Value) :
    (((W.setCell ⟨q, 0, none⟩ a).setCell ⟨q, 1, none⟩ b).setCell ⟨q, 2, none⟩ c).heap[q]? = some (Obj.cells #[a, b, c] t (0, 0)) ∧ Below w.heap.size w (((W.setCell ⟨q, 0, none⟩ a).setCell ⟨q, 1, none⟩ b).setCell ⟨q, 2, none⟩ c) :=
  ⟨heap_same (heap_same (heap_same h 0 _) 1 _) 2 _, ((hb.setCell (p := ⟨q, 0, none⟩) hq _).setCell (p := ⟨q, 1, none⟩) hq _).setCell (p := ⟨q, 2, none⟩) hq _⟩
theorem info_pl2 : (Try.prog.info? 25).map (·.size) = some 2 := by kernel_rfl

/-- A place as a value. -/
abbrev pV (x y : Int) : Value := .agg #[.int .i64 x, .int .i64 y]
abbrev Pc (x y : Int) : Obj := .cells #[.int .i64 x, .int .i64 y] 25
set_option maxRecDepth 100000 in
theorem turnedLeft_any (x y : Int) (w : World) (hy : -4611686018427387904 ≤ y ∧ y ≤ 4611686018427387904) : Calls Try.prog 92 #[.agg #[.int .i64 x, .int .i64 y]] w fun e w' => e = .returned (.agg #[.int .i64 (-y), .int .i64 x]) ∧ Below w.heap.size w w' := by
  have HX := Lib.hid (two_cells w #[.int .i64 x, .int .i64 y] #[.int .i64 (-y), .int .i64 x] 25 25 (Below.refl _ _))
  have n1 : IntKind.i64.wrap (-y) = -y := IntWalk.i64_in _ (by omega)
  have n2 : wrap64 (-y) = -y := w64 (by omega)
  clear hy
  go_enter Try.func92, Try.ntmps92
  go_wp2_with fail
  refine bodyPost_ret (results_cell_row Try.results92 _ _ (w.heap.size + 1) 25 #[.int .i64 (-y), .int .i64 x] (0, 0) _ rfl HX.out.2.1 Try.underlying25 rfl info_pl2) rfl ?_
  exact ⟨rfl, HX.out.2.2.2⟩
set_option maxRecDepth 100000 in
theorem turnedRight_any (x y : Int) (w : World) (hy : -4611686018427387904 ≤ x ∧ x ≤ 4611686018427387904) : Calls Try.prog 78 #[.agg #[.int .i64 x, .int .i64 y]] w fun e w' => e = .returned (.agg #[.int .i64 y, .int .i64 (-x)]) ∧ Below w.heap.size w w' := by
  have HX := Lib.hid (two_cells w #[.int .i64 x, .int .i64 y] #[.int .i64 y, .int .i64 (-x)] 25 25 (Below.refl _ _))
  have n1 : IntKind.i64.wrap (-x) = -x := IntWalk.i64_in _ (by omega)
  have n2 : wrap64 (-x) = -x := w64 (by omega)
  clear hy
  go_enter Try.func78, Try.ntmps78
  go_wp2_with fail
  refine bodyPost_ret (results_cell_row Try.results78 _ _ (w.heap.size + 1) 25 #[.int .i64 y, .int .i64 (-x)] (0, 0) _ rfl HX.out.2.1 Try.underlying25 rfl info_pl2) rfl ?_
  exact ⟨rfl, HX.out.2.2.2⟩

/-! The four sides. -/
def sdE : Value := .func (.func 90) #[] #[]
def sdN (b : Nat) : Value := .func (.func 91) #[] #[.pointer (some ⟨b, 0, none⟩)]
def sdW (b : Nat) : Value := .func (.func 93) #[] #[.pointer (some ⟨b, 0, none⟩)]
def sdS (b : Nat) : Value := .func (.func 94) #[] #[.pointer (some ⟨b, 0, none⟩)]
/-- The boxes of the sides. -/
structure Sds (b : Nat) (w : World) : Prop where
  e : w.heap[b]? = some (.cells #[sdE] 78 (0, 0))
  n : w.heap[b + 1]? = some (.cells #[sdN b] 78 (0, 0))
  s : w.heap[b + 1 + 1]? = some (.cells #[sdW (b + 1)] 78 (0, 0))
theorem Sds.keep {b : Nat} {w w' : World} (h : Sds b w) (hb : Below w.heap.size w w') : Sds b w' :=
  ⟨(hb.block _ (Array.getElem?_eq_some_iff.1 h.e).1).trans h.e, (hb.block _ (Array.getElem?_eq_some_iff.1 h.n).1).trans h.n, (hb.block _ (Array.getElem?_eq_some_iff.1 h.s).1).trans h.s⟩
set_option maxRecDepth 100000 in
theorem side1_any (n : Int) (w : World) : Calls Try.prog 90 #[.int .i64 n] w fun e w' => e = .returned (.agg #[.int .i64 450, .int .i64 n]) ∧ Below w.heap.size w w' := by
  have HX := Lib.hid (cells1 w #[.int .i64 450, .int .i64 n] 25 (Below.refl _ _))
  go_enter Try.func90, Try.ntmps90
  go_wp2_with fail
  refine bodyPost_ret (results_cell_row Try.results90 _ _ w.heap.size 25 #[.int .i64 450, .int .i64 n] (0, 0) _ rfl HX.out.1 Try.underlying25 rfl info_pl2) rfl ?_
  exact ⟨rfl, HX.out.2.2⟩
set_option maxRecDepth 100000 in
theorem side2_any (b : Nat) (n : Int) (w : World) (hs : Sds b w) (hn : -450 ≤ n ∧ n ≤ 450) : Calls Try.prog 91 #[.int .i64 n, .pointer (some ⟨b, 0, none⟩)] w fun e w' => e = .returned (.agg #[.int .i64 (-n), .int .i64 450]) ∧ Below w.heap.size w w' := by
  have HA := Lib.hid (fun W' => cells1 w #[.int .i64 0, .int .i64 0] 25 (W := W'))
  have HS := Lib.hid (hs.keep ((Below.refl w.heap.size w).alloc (Nat.le_refl _) (.cells #[.int .i64 0, .int .i64 0] 25)))
  have r0 := cellH HS.out.e 0
  simp [sdE] at r0
  have H1 := Lib.hid (fun w' (h : Sds b w') => side1_any n w')
  have H2 := Lib.hid (fun w' => turnedLeft_any 450 n w' (by omega))
  have HB0 := Lib.hid ((Below.refl (w.alloc (.cells #[.int .i64 0, .int .i64 0] 25)).heap.size (w.alloc (.cells #[.int .i64 0, .int .i64 0] 25))))
  have enn : -(-n) = n := by omega
  obtain ⟨Z, hZ⟩ : ∃ Z, w.alloc (.cells #[.int .i64 0, .int .i64 0] 25) = Z := ⟨_, rfl⟩
  rw [hZ] at HA HS HB0
  have HZ := Lib.hid hZ
  clear hs hn hZ
  go_enter Try.func91, Try.ntmps91
  go_wp2_with fail
  rw [HZ.out]
  refine (H1.out Z HS.out).mono ?_
  rintro e w1 ⟨rfl, hb1⟩
  have HB1 := Lib.hid (HB0.out.trans (hb1.mono HB0.out.size))
  clear hb1 r0
  go_wp2_with fail
  refine (H2.out w1).mono ?_
  rintro e w2 ⟨rfl, hb2⟩
  have HB2 := Lib.hid (HB1.out.trans (hb2.mono HB1.out.size))
  obtain ⟨c0, _, hbw⟩ := HA.out w2 HB2.out
  have HC := Lib.hid c0
  have HBW := Lib.hid hbw
  have q0 := cellH c0 0
  have q1 := cellH c0 1
  have qf := freeH c0
  simp only [List.getElem?_toArray, List.getElem?_cons_zero, List.getElem?_cons_succ] at q0 q1
  clear hb2 c0 hbw
  go_wp2_with fail
  obtain ⟨z1, z2⟩ := set2 HC.out HBW.out (Nat.le_refl _) (.int .i64 (-n)) (.int .i64 450)
  refine bodyPost_ret (results_cell_row Try.results91 _ _ w.heap.size 25 #[.int .i64 (-n), .int .i64 450] (0, 0) _ rfl z1 Try.underlying25 rfl info_pl2) rfl ?_
  exact ⟨rfl, z2⟩
set_option maxRecDepth 100000 in
theorem side3_any (b : Nat) (n : Int) (w : World) (hs : Sds b w) (hn : -450 ≤ n ∧ n ≤ 450) : Calls Try.prog 93 #[.int .i64 n, .pointer (some ⟨b + 1, 0, none⟩)] w fun e w' => e = .returned (.agg #[.int .i64 (-450), .int .i64 (-n)]) ∧ Below w.heap.size w w' := by
  have HA := Lib.hid (fun W' => cells1 w #[.int .i64 0, .int .i64 0] 25 (W := W'))
  have HS := Lib.hid (hs.keep ((Below.refl w.heap.size w).alloc (Nat.le_refl _) (.cells #[.int .i64 0, .int .i64 0] 25)))
  have r0 := cellH HS.out.n 0
  simp [sdN] at r0
  have H1 := Lib.hid (fun w' (h : Sds b w') => side2_any b n w' h (by omega))
  have H2 := Lib.hid (fun w' => turnedLeft_any (-n) 450 w' (by omega))
  have HB0 := Lib.hid ((Below.refl (w.alloc (.cells #[.int .i64 0, .int .i64 0] 25)).heap.size (w.alloc (.cells #[.int .i64 0, .int .i64 0] 25))))
  have enn : -(-n) = n := by omega
  obtain ⟨Z, hZ⟩ : ∃ Z, w.alloc (.cells #[.int .i64 0, .int .i64 0] 25) = Z := ⟨_, rfl⟩
  rw [hZ] at HA HS HB0
  have HZ := Lib.hid hZ
  clear hs hn hZ
  go_enter Try.func93, Try.ntmps93
  go_wp2_with fail
  rw [HZ.out]
  refine (H1.out Z HS.out).mono ?_
  rintro e w1 ⟨rfl, hb1⟩
  have HB1 := Lib.hid (HB0.out.trans (hb1.mono HB0.out.size))
  clear hb1 r0
  go_wp2_with fail
  refine (H2.out w1).mono ?_
  rintro e w2 ⟨rfl, hb2⟩
  have HB2 := Lib.hid (HB1.out.trans (hb2.mono HB1.out.size))
  obtain ⟨c0, _, hbw⟩ := HA.out w2 HB2.out
  have HC := Lib.hid c0
  have HBW := Lib.hid hbw
  have q0 := cellH c0 0
  have q1 := cellH c0 1
  have qf := freeH c0
  simp only [List.getElem?_toArray, List.getElem?_cons_zero, List.getElem?_cons_succ] at q0 q1
  clear hb2 c0 hbw
  go_wp2_with fail
  obtain ⟨z1, z2⟩ := set2 HC.out HBW.out (Nat.le_refl _) (.int .i64 (-450)) (.int .i64 (-n))
  refine bodyPost_ret (results_cell_row Try.results93 _ _ w.heap.size 25 #[.int .i64 (-450), .int .i64 (-n)] (0, 0) _ rfl z1 Try.underlying25 rfl info_pl2) rfl ?_
  exact ⟨rfl, z2⟩
set_option maxRecDepth 100000 in
theorem side4_any (b : Nat) (n : Int) (w : World) (hs : Sds b w) (hn : -450 ≤ n ∧ n ≤ 450) : Calls Try.prog 94 #[.int .i64 n, .pointer (some ⟨b + 1 + 1, 0, none⟩)] w fun e w' => e = .returned (.agg #[.int .i64 n, .int .i64 (-450)]) ∧ Below w.heap.size w w' := by
  have HA := Lib.hid (fun W' => cells1 w #[.int .i64 0, .int .i64 0] 25 (W := W'))
  have HS := Lib.hid (hs.keep ((Below.refl w.heap.size w).alloc (Nat.le_refl _) (.cells #[.int .i64 0, .int .i64 0] 25)))
  have r0 := cellH HS.out.s 0
  simp [sdW] at r0
  have H1 := Lib.hid (fun w' (h : Sds b w') => side3_any b n w' h (by omega))
  have H2 := Lib.hid (fun w' => turnedLeft_any (-450) (-n) w' (by omega))
  have HB0 := Lib.hid ((Below.refl (w.alloc (.cells #[.int .i64 0, .int .i64 0] 25)).heap.size (w.alloc (.cells #[.int .i64 0, .int .i64 0] 25))))
  have enn : -(-n) = n := by omega
  obtain ⟨Z, hZ⟩ : ∃ Z, w.alloc (.cells #[.int .i64 0, .int .i64 0] 25) = Z := ⟨_, rfl⟩
  rw [hZ] at HA HS HB0
  have HZ := Lib.hid hZ
  clear hs hn hZ
  go_enter Try.func94, Try.ntmps94
  go_wp2_with fail
  rw [HZ.out]
  refine (H1.out Z HS.out).mono ?_
  rintro e w1 ⟨rfl, hb1⟩
  have HB1 := Lib.hid (HB0.out.trans (hb1.mono HB0.out.size))
  clear hb1 r0
  go_wp2_with fail
  refine (H2.out w1).mono ?_
  rintro e w2 ⟨rfl, hb2⟩
  have HB2 := Lib.hid (HB1.out.trans (hb2.mono HB1.out.size))
  obtain ⟨c0, _, hbw⟩ := HA.out w2 HB2.out
  have HC := Lib.hid c0
  have HBW := Lib.hid hbw
  have q0 := cellH c0 0
  have q1 := cellH c0 1
  have qf := freeH c0
  simp only [List.getElem?_toArray, List.getElem?_cons_zero, List.getElem?_cons_succ] at q0 q1
  clear hb2 c0 hbw
  go_wp2_with fail
  obtain ⟨z1, z2⟩ := set2 HC.out HBW.out (Nat.le_refl _) (.int .i64 n) (.int .i64 (-450))
  refine bodyPost_ret (results_cell_row Try.results94 _ _ w.heap.size 25 #[.int .i64 n, .int .i64 (-450)] (0, 0) _ rfl z1 Try.underlying25 rfl info_pl2) rfl ?_
  exact ⟨rfl, z2⟩
set_option maxRecDepth 100000 in
theorem sides_any (w : World) : Calls Try.prog 73 #[] w fun e w' => ∃ b, e = .returned (.agg #[sdE, sdN b, sdW (b + 1), sdS (b + 1 + 1)]) ∧ Sds b w' ∧ Below w.heap.size w w' := by
  have HX := Lib.hid (cells4 w #[sdE, sdN (w.heap.size + 1), sdW (w.heap.size + 1 + 1), sdS (w.heap.size + 1 + 1 + 1)] #[sdE] #[sdN (w.heap.size + 1)] #[sdW (w.heap.size + 1 + 1)] 135 78 78 78 (Below.refl _ _))
  go_enter Try.func73, Try.ntmps73
  go_wp2_with fail
  refine bodyPost_ret (results_cell_row Try.results73 _ _ w.heap.size 135 #[sdE, sdN (w.heap.size + 1), sdW (w.heap.size + 1 + 1), sdS (w.heap.size + 1 + 1 + 1)] (0, 0) _ rfl HX.out.1 Try.underlying135 rfl (by kernel_rfl)) rfl ?_
  exact ⟨w.heap.size + 1, rfl, ⟨HX.out.2.1, HX.out.2.2.1, HX.out.2.2.2.1⟩, HX.out.2.2.2.2.2⟩
/-- The vector of a division. -/
def vcX (n : Int) : Int := if (n + 450) % 3600 < 900 then 450 else if (n + 450) % 3600 < 1800 then 900 - (n + 450) % 3600 + 450 else if (n + 450) % 3600 < 2700 then -450 else (n + 450) % 3600 - 3150
def vcY (n : Int) : Int := if (n + 450) % 3600 < 900 then (n + 450) % 3600 - 450 else if (n + 450) % 3600 < 1800 then 450 else if (n + 450) % 3600 < 2700 then 1800 - (n + 450) % 3600 + 450 else -450
theorem vc_q (q m : Int) (hq : q = 0 ∨ q = 1 ∨ q = 2 ∨ q = 3) (h1 : 900 * q ≤ m) (h2 : m < 900 * q + 900) : m.tdiv 900 = q ∧ m.tmod 900 = m - 900 * q := by
  rw [Int.tdiv_eq_ediv_of_nonneg (by omega), Int.tmod_eq_emod_of_nonneg (by omega)]; omega
theorem side_ix (a b c d : Value) (w : World) : ((Instr.index 135 (.agg #[a, b, c, d]) (.int .i64 0)).run Try.prog w = .ok a w ∧ (Instr.index 135 (.agg #[a, b, c, d]) (.int .i64 1)).run Try.prog w = .ok b w) ∧ (Instr.index 135 (.agg #[a, b, c, d]) (.int .i64 2)).run Try.prog w = .ok c w ∧ (Instr.index 135 (.agg #[a, b, c, d]) (.int .i64 3)).run Try.prog w = .ok d w :=
  ⟨⟨by kernel_rfl, by kernel_rfl⟩, by kernel_rfl, by kernel_rfl⟩
set_option maxRecDepth 100000 in
set_option maxHeartbeats 1000000 in
theorem Vector_any (n : Int) (w : World) : Calls Try.prog 39 #[.int .i64 n] w fun e w' => e = .returned (.agg #[.int .i64 (vcX n), .int .i64 (vcY n)]) ∧ Below w.heap.size w w' := by
  obtain ⟨h1, h2, _, h4, _⟩ := tmod_c (n := n)
  obtain ⟨r, hr⟩ : ∃ r, n.tmod 3600 = r := ⟨_, rfl⟩
  rw [hr] at h1 h2 h4
  have e1 : IntKind.i64.wrap r = r := IntWalk.i64_in _ (by omega)
  have e2 : IntKind.i64.wrap (r + 450) = r + 450 := IntWalk.i64_in _ (by omega)
  have HT := Lib.hid (fun w' => qturn_any (r + 450) w')
  have hm : (r + 450) % 3600 = (n + 450) % 3600 := by omega
  have HX : Hid (vcX n = _) := Lib.hid (vcX.eq_1 n)
  have HY : Hid (vcY n = _) := Lib.hid (vcY.eq_1 n)
  rw [hm] at HT
  obtain ⟨m, hmm⟩ : ∃ m, (n + 450) % 3600 = m := ⟨_, rfl⟩
  have hm0 : 0 ≤ m ∧ m < 3600 := by omega
  rw [hmm] at HT HX HY
  have HA := Lib.hid (fun W' => cells1 w #[.int .i64 0, .int .i64 0] 25 (W := W'))
  have HB0 := Lib.hid ((Below.refl (w.alloc (.cells #[.int .i64 0, .int .i64 0] 25)).heap.size (w.alloc (.cells #[.int .i64 0, .int .i64 0] 25))))
  obtain ⟨Z, hZ⟩ : ∃ Z, w.alloc (.cells #[.int .i64 0, .int .i64 0] 25) = Z := ⟨_, rfl⟩
  rw [hZ] at HA HB0
  have HZ := Lib.hid hZ
  have HM0 := Lib.hid hm0
  clear h1 h2 h4 hm hmm hZ hm0
  go_enter Try.func39, Try.ntmps39
  go_wp2_with fail
  rw [HZ.out]
  refine (HT.out Z).mono ?_
  rintro e w1 ⟨rfl, rfl⟩
  clear hr e1 e2
  go_wp2_with fail
  refine (sides_any _).mono ?_
  rintro e w2 ⟨b, rfl, hs, hb2⟩
  have HS := Lib.hid hs
  have HB2 := Lib.hid (HB0.out.trans (hb2.mono HB0.out.size))
  clear hs hb2
  have hm0 := HM0.out
  obtain ⟨q, hq, hq1, hq2⟩ : ∃ q : Int, (q = 0 ∨ q = 1 ∨ q = 2 ∨ q = 3) ∧ 900 * q ≤ m ∧ m < 900 * q + 900 := ⟨m / 900, by omega, by omega, by omega⟩
  obtain ⟨d1, d2⟩ := vc_q q m hq hq1 hq2
  have e3 : IntKind.i64.wrap (m - 900 * q) = m - 900 * q := IntWalk.i64_in _ (by omega)
  have e4 : IntKind.i64.wrap (m - 900 * q - 450) = m - 900 * q - 450 := IntWalk.i64_in _ (by omega)
  have HLIM := Lib.hid (show -450 ≤ m - 900 * q - 450 ∧ m - 900 * q - 450 ≤ 450 by omega)
  have key : ∀ (x y : Int) (V : Value), V = .agg #[.int .i64 x, .int .i64 y] → True := fun _ _ _ _ => trivial
  clear hm0 key
  have HQ1 := Lib.hid hq1
  have HQ2 := Lib.hid hq2
  clear hq1 hq2
  rcases hq with rfl | rfl | rfl | rfl
  · simp only [Int.reduceMul, Int.sub_zero, Int.mul_zero] at d1 d2 e3 e4 HLIM HQ1 HQ2
    have hix := (side_ix (.func (.func 90) #[] #[]) (sdN b) (sdW (b + 1)) (sdS (b + 1 + 1)) w2).1.1
    have hsd : sdE = .func (.func 90) #[] #[] := rfl
    have H5 := Lib.hid (side1_any (m - 450) w2)
    go_wp2_with fail
    refine H5.out.mono ?_
    rintro e w3 ⟨rfl, hb3⟩
    have HB3 := Lib.hid (HB2.out.trans (hb3.mono HB2.out.size))
    obtain ⟨c0, _, hbw⟩ := HA.out w3 HB3.out
    have HC := Lib.hid c0
    have HBW := Lib.hid hbw
    have q0 := cellH c0 0
    have q1 := cellH c0 1
    have qf := freeH c0
    simp only [List.getElem?_toArray, List.getElem?_cons_zero, List.getElem?_cons_succ] at q0 q1
    clear hb3 c0 hbw hix hsd d1 d2 e3 e4
    go_wp2_with fail
    obtain ⟨z1, z2⟩ := set2 HC.out HBW.out (Nat.le_refl _) (.int .i64 450) (.int .i64 (m - 450))
    refine bodyPost_ret (results_cell_row Try.results39 _ _ w.heap.size 25 #[.int .i64 450, .int .i64 (m - 450)] (0, 0) _ rfl z1 Try.underlying25 rfl info_pl2) rfl ?_
    refine ⟨?_, z2⟩
    have h1 := HQ1.out
    have h2 := HQ2.out
    have h3 := HM0.out
    refine ret_val' ?_
    rw [HX.out, HY.out]
    rw [if_pos (by omega), if_pos (by omega)]
  · simp only [Int.reduceMul, Int.sub_zero, Int.mul_zero] at d1 d2 e3 e4 HLIM HQ1 HQ2
    have hix := (side_ix sdE (.func (.func 91) #[] #[.pointer (some ⟨b, 0, none⟩)]) (sdW (b + 1)) (sdS (b + 1 + 1)) w2).1.2
    have hsd : sdN b = .func (.func 91) #[] #[.pointer (some ⟨b, 0, none⟩)] := rfl
    have H5 := Lib.hid (side2_any b (m - 900 - 450) w2 HS.out HLIM.out)
    go_wp2_with fail
    refine H5.out.mono ?_
    rintro e w3 ⟨rfl, hb3⟩
    have HB3 := Lib.hid (HB2.out.trans (hb3.mono HB2.out.size))
    obtain ⟨c0, _, hbw⟩ := HA.out w3 HB3.out
    have HC := Lib.hid c0
    have HBW := Lib.hid hbw
    have q0 := cellH c0 0
    have q1 := cellH c0 1
    have qf := freeH c0
    simp only [List.getElem?_toArray, List.getElem?_cons_zero, List.getElem?_cons_succ] at q0 q1
    clear hb3 c0 hbw hix hsd d1 d2 e3 e4
    go_wp2_with fail
    obtain ⟨z1, z2⟩ := set2 HC.out HBW.out (Nat.le_refl _) (.int .i64 (-(m - 900 - 450))) (.int .i64 450)
    refine bodyPost_ret (results_cell_row Try.results39 _ _ w.heap.size 25 #[.int .i64 (-(m - 900 - 450)), .int .i64 450] (0, 0) _ rfl z1 Try.underlying25 rfl info_pl2) rfl ?_
    refine ⟨?_, z2⟩
    have h1 := HQ1.out
    have h2 := HQ2.out
    have h3 := HM0.out
    refine ret_val' ?_
    rw [HX.out, HY.out]
    rw [if_neg (by omega), if_pos (by omega), if_neg (by omega), if_pos (by omega), show 900 - m + 450 = -(m - 900 - 450) by omega]
  · simp only [Int.reduceMul, Int.sub_zero, Int.mul_zero] at d1 d2 e3 e4 HLIM HQ1 HQ2
    have hix := (side_ix sdE (sdN b) (.func (.func 93) #[] #[.pointer (some ⟨b + 1, 0, none⟩)]) (sdS (b + 1 + 1)) w2).2.1
    have hsd : sdW (b + 1) = .func (.func 93) #[] #[.pointer (some ⟨b + 1, 0, none⟩)] := rfl
    have H5 := Lib.hid (side3_any b (m - 1800 - 450) w2 HS.out HLIM.out)
    go_wp2_with fail
    refine H5.out.mono ?_
    rintro e w3 ⟨rfl, hb3⟩
    have HB3 := Lib.hid (HB2.out.trans (hb3.mono HB2.out.size))
    obtain ⟨c0, _, hbw⟩ := HA.out w3 HB3.out
    have HC := Lib.hid c0
    have HBW := Lib.hid hbw
    have q0 := cellH c0 0
    have q1 := cellH c0 1
    have qf := freeH c0
    simp only [List.getElem?_toArray, List.getElem?_cons_zero, List.getElem?_cons_succ] at q0 q1
    clear hb3 c0 hbw hix hsd d1 d2 e3 e4
    go_wp2_with fail
    obtain ⟨z1, z2⟩ := set2 HC.out HBW.out (Nat.le_refl _) (.int .i64 (-450)) (.int .i64 (-(m - 1800 - 450)))
    refine bodyPost_ret (results_cell_row Try.results39 _ _ w.heap.size 25 #[.int .i64 (-450), .int .i64 (-(m - 1800 - 450))] (0, 0) _ rfl z1 Try.underlying25 rfl info_pl2) rfl ?_
    refine ⟨?_, z2⟩
    have h1 := HQ1.out
    have h2 := HQ2.out
    have h3 := HM0.out
    refine ret_val' ?_
    rw [HX.out, HY.out]
    rw [if_neg (by omega), if_neg (by omega), if_pos (by omega), if_neg (by omega), if_neg (by omega), if_pos (by omega), show 1800 - m + 450 = -(m - 1800 - 450) by omega]
  · simp only [Int.reduceMul, Int.sub_zero, Int.mul_zero] at d1 d2 e3 e4 HLIM HQ1 HQ2
    have hix := (side_ix sdE (sdN b) (sdW (b + 1)) (.func (.func 94) #[] #[.pointer (some ⟨b + 1 + 1, 0, none⟩)]) w2).2.2
    have hsd : sdS (b + 1 + 1) = .func (.func 94) #[] #[.pointer (some ⟨b + 1 + 1, 0, none⟩)] := rfl
    have H5 := Lib.hid (side4_any b (m - 2700 - 450) w2 HS.out HLIM.out)
    go_wp2_with fail
    refine H5.out.mono ?_
    rintro e w3 ⟨rfl, hb3⟩
    have HB3 := Lib.hid (HB2.out.trans (hb3.mono HB2.out.size))
    obtain ⟨c0, _, hbw⟩ := HA.out w3 HB3.out
    have HC := Lib.hid c0
    have HBW := Lib.hid hbw
    have q0 := cellH c0 0
    have q1 := cellH c0 1
    have qf := freeH c0
    simp only [List.getElem?_toArray, List.getElem?_cons_zero, List.getElem?_cons_succ] at q0 q1
    clear hb3 c0 hbw hix hsd d1 d2 e3 e4
    go_wp2_with fail
    obtain ⟨z1, z2⟩ := set2 HC.out HBW.out (Nat.le_refl _) (.int .i64 (m - 2700 - 450)) (.int .i64 (-450))
    refine bodyPost_ret (results_cell_row Try.results39 _ _ w.heap.size 25 #[.int .i64 (m - 2700 - 450), .int .i64 (-450)] (0, 0) _ rfl z1 Try.underlying25 rfl info_pl2) rfl ?_
    refine ⟨?_, z2⟩
    have h1 := HQ1.out
    have h2 := HQ2.out
    have h3 := HM0.out
    refine ret_val' ?_
    rw [HX.out, HY.out]
    rw [if_neg (by omega), if_neg (by omega), if_neg (by omega), if_neg (by omega), if_neg (by omega), if_neg (by omega), show m - 3150 = m - 2700 - 450 by omega]
end Go.Proofs.Ytpaihnjgpookjaa
