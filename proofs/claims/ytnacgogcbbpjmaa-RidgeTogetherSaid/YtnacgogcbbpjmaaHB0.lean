/- Clear of package ridge. -/
import Derived.Test.YtnacgogcbbpjmaaHA9
set_option linter.unusedVariables false
set_option linter.unusedSimpArgs false
namespace Go.Proofs.Ytnacgogcbbpjmaa
open Go Go.RowKit

theorem ints2 (W : World) (x y : Int) : INRow (W.alloc (.cells #[.int .i64 x, .int .i64 y] 3)) (.slice (some ⟨W.heap.size, 0, none⟩) 2 2) [x, y] := by
  refine .inr ⟨W.heap.size, 0, 2, rfl, by simp, fun i hi => ?_⟩
  have h : (W.alloc (.cells #[.int .i64 x, .int .i64 y] 3)).heap[W.heap.size]? = some (.cells #[.int .i64 x, .int .i64 y] 3 (0, 0)) := heap_alloc_new _ _
  rw [Nat.zero_add, cellH h]
  match i, hi with
  | 0, _ => rfl
  | 1, _ => rfl
theorem ints1 (W : World) (x : Int) : INRow (W.alloc (.cells #[.int .i64 x] 3)) (.slice (some ⟨W.heap.size, 0, none⟩) 1 1) [x] := by
  refine .inr ⟨W.heap.size, 0, 1, rfl, by simp, fun i hi => ?_⟩
  have h : (W.alloc (.cells #[.int .i64 x] 3)).heap[W.heap.size]? = some (.cells #[.int .i64 x] 3 (0, 0)) := heap_alloc_new _ _
  rw [Nat.zero_add, cellH h]
  match i, hi with
  | 0, _ => rfl
theorem vlB_ok {wd hg : Int} {g : List Int} {a b : Pl} {l : List Int} (h : vlB wd hg g a b l = true) : vmB wd hg g = true ∧ onB wd hg a = true ∧ onB wd hg b = true ∧ ∀ n ∈ l, 0 ≤ n ∧ n ≤ 200 := by
  unfold vlB tallB at h
  simp only [Bool.and_eq_true, List.all_eq_true] at h
  obtain ⟨⟨⟨h1, h2⟩, h3⟩, h4⟩ := h
  refine ⟨h1, h2, h3, fun n hn => ?_⟩
  have := h4 n hn
  unfold wiB at this
  simp only [Bool.and_eq_true, decide_eq_true_eq] at this
  exact this
/-- Whether a line is free, if it is one. -/
def clB (wd hg : Int) (g : List Int) (a : Pl) (up : Int) (b : Pl) (rise : Int) : Bool := vlB wd hg g a b [up, rise] && freeB g wd a up b rise
def lnE (wd hg : Int) (g : List Int) (a b : Pl) (l : List Int) : Int := if vlB wd hg g a b l = true then 0 else 1

set_option maxRecDepth 100000 in
set_option maxHeartbeats 4000000 in
theorem Clear_any (wd hg : Int) (o : Value) (g : List Int) (a b : Pl) (up rise : Int) (w : World) (hv : INRow w o g) (hl : g.length ≤ 9223372036854775807) :
    Calls Try.prog 18 #[mpV wd hg o, plV a, .int .i64 up, plV b, .int .i64 rise] w fun e w' => e = .returned (.tuple #[.bool (clB wd hg g a up b rise), .int .i64 (lnE wd hg g a b [up, rise])]) ∧ Below w.heap.size w w' := by
  have HC1 := Lib.hid (fun w' (h : Below w.heap.size w w') v (hu : INRow w' v [up, rise]) => validLine_any wd hg o g a b v [up, rise] w' (hv.keep h) hl hu (by simp))
  have HV := Lib.hid hv
  clear hv hl
  have HV1 : Hid (clB wd hg g a up b rise = (vlB wd hg g a b [up, rise] && freeB g wd a up b rise)) := Lib.hid rfl
  have HV2 : Hid (lnE wd hg g a b [up, rise] = if vlB wd hg g a b [up, rise] = true then 0 else 1) := Lib.hid rfl
  unfold mpV plV at HC1
  have HA := Lib.hid (fun W' => three_cells w #[.int .i64 wd, .int .i64 hg, o] #[.int .i64 a.1, .int .i64 a.2] #[.int .i64 b.1, .int .i64 b.2] 24 32 32 (W := W'))
  have HB0 := Lib.hid ((((Below.refl _ w).alloc (Nat.le_refl w.heap.size) (.cells #[.int .i64 wd, .int .i64 hg, o] 24)).alloc (by simp) (.cells #[.int .i64 a.1, .int .i64 a.2] 32)).alloc (by simp; omega) (.cells #[.int .i64 b.1, .int .i64 b.2] 32))
  obtain ⟨W1, hW1⟩ : ∃ W1, ((w.alloc (.cells #[.int .i64 wd, .int .i64 hg, o] 24)).alloc (.cells #[.int .i64 a.1, .int .i64 a.2] 32)).alloc (.cells #[.int .i64 b.1, .int .i64 b.2] 32) = W1 := ⟨_, rfl⟩
  have HSZ1 : Hid (W1.heap.size = w.heap.size + 3) := Lib.hid (by rw [← hW1]; simp)
  rw [hW1] at HA HB0
  have HW1 := Lib.hid hW1
  have ead : w.heap.size + 1 + 1 = w.heap.size + 2 := rfl
  clear hW1
  by_cases hvl : vlB wd hg g a b [up, rise] = true
  case neg =>
    have hvl' : vlB wd hg g a b [up, rise] = false := by simpa using hvl
    rw [hvl'] at HC1 HV1 HV2
    have HN : Hid (clB wd hg g a up b rise = false ∧ lnE wd hg g a b [up, rise] = 1) := Lib.hid ⟨by rw [HV1.out]; rfl, by rw [HV2.out]; rfl⟩
    clear hvl hvl'
    unfold mpV plV
    go_enter Try.func18, Try.ntmps18
    go_wp2_with fail
    rw [HW1.out]
    obtain ⟨m0, m1, m2, _, hw1⟩ := HA.out W1 (Below.refl _ _)
    have q0 := cellH m0 0
    have q1 := cellH m0 1
    have q2 := cellH m0 2
    have r0 := cellH m1 0
    have r1 := cellH m1 1
    have s0 := cellH m2 0
    have s1 := cellH m2 1
    simp at q0 q1 q2 r0 r1 s0 s1
    clear m0 m1 m2
    go_wp2_with fail
    have hbs : Below W1.heap.size W1 (W1.alloc (.cells #[.int .i64 up, .int .i64 rise] 3)) := (Below.refl _ W1).alloc (Nat.le_refl _) _
    have HBS := Lib.hid (HB0.out.trans (hbs.mono HB0.out.size))
    clear hbs
    have hr2 : INRow (W1.alloc (.cells #[.int .i64 up, .int .i64 rise] 3)) (.slice (some ⟨w.heap.size + 2 + 1, 0, none⟩) 2 2) [up, rise] := by
      have := ints2 W1 up rise
      rw [HSZ1.out] at this; exact this
    refine (HC1.out _ HBS.out _ hr2).mono ?_
    rintro e w2 ⟨rfl, hb2⟩
    have HB2 := Lib.hid (HBS.out.trans (hb2.mono HBS.out.size))
    clear hb2 q0 q1 q2 r0 r1 s0 s1
    go_wp2_with fail
    go_ret2
    exact ⟨ret_val' (by rw [HN.out.1, HN.out.2]; rfl), HB2.out⟩
  rw [hvl] at HC1 HV1 HV2
  obtain ⟨hm, ha, hb, ht⟩ := vlB_ok hvl
  have hu := ht up (by simp)
  have hr := ht rise (by simp)
  have HC2 := Lib.hid (fun w' (h : Below w.heap.size w w') => free_any wd hg o g a b up rise w' (HV.out.keep h) hm ha hb hu hr)
  unfold mpV plV at HC2
  have HN : Hid (clB wd hg g a up b rise = freeB g wd a up b rise ∧ lnE wd hg g a b [up, rise] = 0) := Lib.hid ⟨by rw [HV1.out]; simp, by rw [HV2.out]; rfl⟩
  obtain ⟨fb, hfb⟩ : ∃ x, freeB g wd a up b rise = x := ⟨_, rfl⟩
  rw [hfb] at HC2 HN
  clear hvl hm ha hb ht hu hr hfb
  unfold mpV plV
  go_enter Try.func18, Try.ntmps18
  go_wp2_with fail
  rw [HW1.out]
  obtain ⟨m0, m1, m2, _, hw1⟩ := HA.out W1 (Below.refl _ _)
  have q0 := cellH m0 0
  have q1 := cellH m0 1
  have q2 := cellH m0 2
  have r0 := cellH m1 0
  have r1 := cellH m1 1
  have s0 := cellH m2 0
  have s1 := cellH m2 1
  simp at q0 q1 q2 r0 r1 s0 s1
  clear m0 m1 m2
  go_wp2_with fail
  have hbs : Below W1.heap.size W1 (W1.alloc (.cells #[.int .i64 up, .int .i64 rise] 3)) := (Below.refl _ W1).alloc (Nat.le_refl _) _
  have HBS := Lib.hid (HB0.out.trans (hbs.mono HB0.out.size))
  have hr2 : INRow (W1.alloc (.cells #[.int .i64 up, .int .i64 rise] 3)) (.slice (some ⟨w.heap.size + 2 + 1, 0, none⟩) 2 2) [up, rise] := by
    have := ints2 W1 up rise
    rw [HSZ1.out] at this; exact this
  refine (HC1.out _ HBS.out _ hr2).mono ?_
  rintro e w2 ⟨rfl, hb2⟩
  have HD2 := Lib.hid (hbs.trans (hb2.mono hbs.size))
  clear q0 q1 q2 r0 r1 s0 s1
  obtain ⟨m0, m1, m2, _, hw2⟩ := HA.out w2 HD2.out
  have q0 := cellH m0 0
  have q1 := cellH m0 1
  have q2 := cellH m0 2
  have r0 := cellH m1 0
  have r1 := cellH m1 1
  have s0 := cellH m2 0
  have s1 := cellH m2 1
  simp at q0 q1 q2 r0 r1 s0 s1
  clear m0 m1 m2
  have HB2 := Lib.hid hw2
  clear hb2 hbs hw1 hw2
  go_wp2_with fail
  refine (HC2.out _ HB2.out).mono ?_
  rintro e w3 ⟨rfl, hb3⟩
  have HB3 := Lib.hid (HB2.out.trans (hb3.mono HB2.out.size))
  clear hb3
  clear q0 q1 q2 r0 r1 s0 s1
  go_wp2_with fail
  go_ret2
  exact ⟨ret_val' (by rw [HN.out.1, HN.out.2]; rfl), HB3.out⟩
end Go.Proofs.Ytnacgogcbbpjmaa

/-! Block of package ridge. -/
set_option linter.unusedVariables false
set_option linter.unusedSimpArgs false
namespace Go.Proofs.Ytnacgogcbbpjmaa
open Go Go.RowKit
attribute [local go_sem] Oper.semAt_some

theorem block_results {tmps : Array Value} {w : World} {R S T : Nat} {u v b e : Value} (h : tmps.getD 10 undef = .pointer (some ⟨R, 0, none⟩)) (h2 : tmps.getD 11 undef = .pointer (some ⟨S, 0, none⟩)) (h3 : tmps.getD 12 undef = .pointer (some ⟨T, 0, none⟩))
    (hg : w.heap[R]? = some (.cells #[u, v] 60 (0, 0))) (hs : w.cell? ⟨S, 0, none⟩ = some b) (ht : w.cell? ⟨T, 0, none⟩ = some e) : (results Try.f19 tmps).run Try.prog w = .ok (.tuple #[.agg #[u, v], b, e]) w := by
  have h' : tmps[10]?.getD undef = .pointer (some ⟨R, 0, none⟩) := by simpa using h
  have h2' : tmps[11]?.getD undef = .pointer (some ⟨S, 0, none⟩) := by simpa using h2
  have h3' : tmps[12]?.getD undef = .pointer (some ⟨T, 0, none⟩) := by simpa using h3
  have q0 := cellH hg 0
  have q1 := cellH hg 1
  simp at q0 q1
  simp [results, Try.results19, asAddr, h', h2', h3', q0, q1, hs, ht, go_sem]
/-- The first crossing at which a line is blocked. -/
def bkF (wd hg : Int) (g : List Int) (a : Pl) (up : Int) (b : Pl) (rise : Int) : Option (Int × Int) := if vlB wd hg g a b [up, rise] = true then (blk g wd a b (hAt g wd a + up) (hAt g wd b + rise)).head? else none
def bkT (x : Option (Int × Int)) (e : Int) : Value := match x with
  | some c => .tuple #[.agg #[.int .i64 c.1, .int .i64 c.2], .bool true, .int .i64 e]
  | none => .tuple #[.agg #[.int .i64 0, .int .i64 0], .bool false, .int .i64 e]
/-- The cells of the three results of Block. -/
structure B3 (n : Nat) (W : World) (x : Int × Int) (b : Bool) (e : Int) : Prop where
  x : W.heap[n]? = some (.cells #[.int .i64 x.1, .int .i64 x.2] 60 (0, 0))
  b : W.heap[n + 1]? = some (.cells #[.bool b] 4 (0, 0))
  e : W.heap[n + 2]? = some (.cells #[.int .i64 e] 33 (0, 0))
theorem B3.keep {n : Nat} {X Y : World} {x : Int × Int} {b : Bool} {e : Int} (h : B3 n X x b e) (k : ∀ i, i < n + 3 → Y.heap[i]? = X.heap[i]?) : B3 n Y x b e := ⟨(k _ (by omega)).trans h.x, (k _ (by omega)).trans h.b, (k _ (by omega)).trans h.e⟩
theorem B3.kc5 {n : Nat} {X Y : World} {x : Int × Int} {b : Bool} {e : Int} (h : B3 n X x b e) (k : KC5 X Y) : B3 n Y x b e := ⟨k.2 _ _ _ _ h.x, k.2 _ _ _ _ h.b, k.2 _ _ _ _ h.e⟩
theorem B3.size {n : Nat} {X : World} {x : Int × Int} {b : Bool} {e : Int} (h : B3 n X x b e) : n + 2 < X.heap.size := (Array.getElem?_eq_some_iff.1 h.e).1
theorem B3.set {n : Nat} {X : World} {x : Int × Int} {b : Bool} {e : Int} (h : B3 n X x b e) (y : Int × Int) (c : Bool) (f : Int) : B3 n ((((X.setCell ⟨n, 0, none⟩ (.int .i64 y.1)).setCell ⟨n, 1, none⟩ (.int .i64 y.2)).setCell ⟨n + 1, 0, none⟩ (.bool c)).setCell ⟨n + 2, 0, none⟩ (.int .i64 f)) y c f := by
  refine ⟨?_, ?_, ?_⟩
  · rw [heap_other _ _ _ _ _ (by omega), heap_other _ _ _ _ _ (by omega)]
    exact heap_same (heap_same h.x 0 _) 1 _
  · rw [heap_other _ _ _ _ _ (by omega)]
    exact heap_same (((heap_other _ _ _ _ _ (by omega)).trans ((heap_other _ _ _ _ _ (by omega)).trans h.b))) 0 _
  · exact heap_same ((heap_other _ _ _ _ _ (by omega)).trans ((heap_other _ _ _ _ _ (by omega)).trans ((heap_other _ _ _ _ _ (by omega)).trans h.e))) 0 _

set_option maxRecDepth 100000 in
set_option maxHeartbeats 4000000 in
theorem Block_any (wd hg : Int) (o : Value) (g : List Int) (a b : Pl) (up rise : Int) (w : World) (hv : INRow w o g) (hl : g.length ≤ 9223372036854775807) :
    Calls Try.prog 19 #[mpV wd hg o, plV a, .int .i64 up, plV b, .int .i64 rise] w fun e w' => e = .returned (bkT (bkF wd hg g a up b rise) (lnE wd hg g a b [up, rise])) ∧ Below w.heap.size w w' := by
  have HC1 := Lib.hid (fun w' (h : Below w.heap.size w w') v (hu : INRow w' v [up, rise]) => validLine_any wd hg o g a b v [up, rise] w' (hv.keep h) hl hu (by simp))
  have HV := Lib.hid hv
  clear hv hl
  have HV1 : Hid (bkF wd hg g a up b rise = if vlB wd hg g a b [up, rise] = true then (blk g wd a b (hAt g wd a + up) (hAt g wd b + rise)).head? else none) := Lib.hid rfl
  have HV2 : Hid (lnE wd hg g a b [up, rise] = if vlB wd hg g a b [up, rise] = true then 0 else 1) := Lib.hid rfl
  unfold mpV plV at HC1
  have HA := Lib.hid (fun W' => three_cells w #[.int .i64 wd, .int .i64 hg, o] #[.int .i64 a.1, .int .i64 a.2] #[.int .i64 b.1, .int .i64 b.2] 24 32 32 (W := W'))
  have HB0 := Lib.hid ((((Below.refl _ w).alloc (Nat.le_refl w.heap.size) (.cells #[.int .i64 wd, .int .i64 hg, o] 24)).alloc (by simp) (.cells #[.int .i64 a.1, .int .i64 a.2] 32)).alloc (by simp; omega) (.cells #[.int .i64 b.1, .int .i64 b.2] 32))
  obtain ⟨W1, hW1⟩ : ∃ W1, ((w.alloc (.cells #[.int .i64 wd, .int .i64 hg, o] 24)).alloc (.cells #[.int .i64 a.1, .int .i64 a.2] 32)).alloc (.cells #[.int .i64 b.1, .int .i64 b.2] 32) = W1 := ⟨_, rfl⟩
  have HSZ1 : Hid (W1.heap.size = w.heap.size + 3) := Lib.hid (by rw [← hW1]; simp)
  rw [hW1] at HA HB0
  have HW1 := Lib.hid hW1
  have ead : w.heap.size + 1 + 1 = w.heap.size + 2 := rfl
  clear hW1
  have HW4 : Hid (B3 (w.heap.size + 3) (((W1.alloc (.cells #[.int .i64 0, .int .i64 0] 60)).alloc (.cells #[.bool false] 4)).alloc (.cells #[.int .i64 0] 33)) (0, 0) false 0 ∧ Below W1.heap.size W1 (((W1.alloc (.cells #[.int .i64 0, .int .i64 0] 60)).alloc (.cells #[.bool false] 4)).alloc (.cells #[.int .i64 0] 33)) ∧
      (((W1.alloc (.cells #[.int .i64 0, .int .i64 0] 60)).alloc (.cells #[.bool false] 4)).alloc (.cells #[.int .i64 0] 33)).heap.size = w.heap.size + 6) := Lib.hid (by
    have h1 := HSZ1.out
    refine ⟨⟨?_, ?_, ?_⟩, (((Below.refl _ W1).alloc (Nat.le_refl _) _).alloc (by simp) _).alloc (by simp; omega) _, by simp only [World.size_alloc]; omega⟩
    · rw [gNe _ _ _ (by simp only [World.size_alloc]; omega), gNe _ _ _ (by simp only [World.size_alloc]; omega)]
      exact gAt _ _ _ (by omega)
    · rw [gNe _ _ _ (by simp only [World.size_alloc]; omega)]
      exact gAt _ _ _ (by simp only [World.size_alloc]; omega)
    · exact gAt _ _ _ (by simp only [World.size_alloc]; omega))
  obtain ⟨W4, hW4⟩ : ∃ W4, ((W1.alloc (.cells #[.int .i64 0, .int .i64 0] 60)).alloc (.cells #[.bool false] 4)).alloc (.cells #[.int .i64 0] 33) = W4 := ⟨_, rfl⟩
  rw [hW4] at HW4
  have HE4 := Lib.hid hW4
  have e3 : w.heap.size + 2 + 1 = w.heap.size + 3 := rfl
  have e4 : w.heap.size + 3 + 1 = w.heap.size + 4 := rfl
  have e5 : w.heap.size + 4 + 1 = w.heap.size + 5 := rfl
  have e6 : w.heap.size + 5 + 1 = w.heap.size + 6 := rfl
  clear hW4
  refine callsIn_wide.1 (?_ : CallsIn Fence.wide 7 _ _ _ _ _)
  unfold mpV plV
  refine callsIn_of_wp_marks Try.func19 rfl trivial ?_ rfl
  simp only [Try.ntmps19, List.size_toArray, List.length_cons, List.length_nil, Nat.reduceAdd, Nat.reduceSub, Array.replicate_succ, Array.replicate_zero, List.push_toArray, List.append_toArray, List.nil_append, List.cons_append]
  refine wpIn_wide.2 ?_
  by_cases hvl : vlB wd hg g a b [up, rise] = true
  case neg =>
    have hvl' : vlB wd hg g a b [up, rise] = false := by simpa using hvl
    rw [hvl'] at HC1 HV1 HV2
    have HN : Hid (bkF wd hg g a up b rise = none ∧ lnE wd hg g a b [up, rise] = 1) := Lib.hid ⟨by rw [HV1.out]; rfl, by rw [HV2.out]; rfl⟩
    clear hvl hvl'
    go_wp2_with fail
    rw [HW1.out]
    obtain ⟨m0, m1, m2, _, hw1⟩ := HA.out W1 (Below.refl _ _)
    have q0 := cellH m0 0
    have q1 := cellH m0 1
    have q2 := cellH m0 2
    have r0 := cellH m1 0
    have r1 := cellH m1 1
    have s0 := cellH m2 0
    have s1 := cellH m2 1
    simp at q0 q1 q2 r0 r1 s0 s1
    clear m0 m1 m2
    go_wp2_with fail
    rw [HE4.out]
    have hbs : Below W4.heap.size W4 (W4.alloc (.cells #[.int .i64 up, .int .i64 rise] 3)) := (Below.refl _ W4).alloc (Nat.le_refl _) _
    have hb14 := HW4.out.2.1.trans (hbs.mono HW4.out.2.1.size)
    have HBS := Lib.hid (HB0.out.trans (hb14.mono HB0.out.size))
    have hr2 : INRow (W4.alloc (.cells #[.int .i64 up, .int .i64 rise] 3)) (.slice (some ⟨w.heap.size + 6, 0, none⟩) 2 2) [up, rise] := by
      have := ints2 W4 up rise
      rw [HW4.out.2.2] at this; exact this
    refine (HC1.out _ HBS.out _ hr2).mono ?_
    rintro e w2 ⟨rfl, hb2⟩
    have hb4 := hbs.trans (hb2.mono hbs.size)
    have HD2 := Lib.hid hb4
    have HB2 := Lib.hid (HBS.out.trans (hb2.mono HBS.out.size))
    have hB := HW4.out.1.keep (Y := w2) (fun i hi => hb4.block i (by have := HW4.out.2.2; omega))
    have z0 := cellH hB.x 0
    have z1 := cellH hB.x 1
    have zf := freeH hB.x
    have y0 := cellH hB.b 0
    have yf := freeH hB.b
    have x0 := cellH hB.e 0
    have xf := freeH hB.e
    simp at z0 z1 y0 x0
    have HBB := Lib.hid hB
    clear hb2 hbs hb14 hb4 hr2 hB
    have HNB := Lib.hid (HBB.out.set (0, 0) false 1)
    go_wp2_with fail
    try rw [Exit.noGoto_ret]
    exact leaves_marks5 (F := Fence.wide) (n := 7) w.heap.size [] _ (by simp) (fun D' hD' => by simp at hD') (fun W' hk hb' => ⟨_, block_results rfl rfl rfl (HNB.out.kc5 hk).x (cellH (HNB.out.kc5 hk).b 0) (cellH (HNB.out.kc5 hk).e 0), by rw [HN.out.1, HN.out.2]; rfl, ((((HB2.out.setCell (p := ⟨w.heap.size + 3, 0, none⟩) (by simp) _).setCell (p := ⟨w.heap.size + 3, 1, none⟩) (by simp) _).setCell (p := ⟨w.heap.size + 4, 0, none⟩) (by simp) _).setCell (p := ⟨w.heap.size + 5, 0, none⟩) (by simp) _).trans hb'⟩)
  rw [hvl] at HC1 HV1 HV2
  obtain ⟨hm, ha, hb, ht⟩ := vlB_ok hvl
  have hu := ht up (by simp)
  have hr := ht rise (by simp)
  have hgl : 0 < g.length := by have := on_idx hm ha; omega
  have HG := Lib.hid (GRow.of HV.out hgl)
  have hA := hAt_bd hm ha
  have hB0 := hAt_bd hm hb
  have HCB := Lib.hid (fun w' (h : Below w.heap.size w w') => blocks_any wd hg o g a b up rise w' (HV.out.keep h) hm ha hb hu hr)
  unfold mpV plV at HCB
  obtain ⟨u, hue⟩ : ∃ x, hAt g wd a + up = x := ⟨_, rfl⟩
  obtain ⟨v, hve⟩ : ∃ x, hAt g wd b + rise = x := ⟨_, rfl⟩
  have hu2 : 0 ≤ u ∧ u ≤ 4200 := by omega
  have hv2 : 0 ≤ v ∧ v ≤ 4200 := by omega
  rw [hue, hve] at HCB HV1
  have HN : Hid (bkF wd hg g a up b rise = (blk g wd a b u v).head? ∧ lnE wd hg g a b [up, rise] = 0) := Lib.hid ⟨by rw [HV1.out]; rfl, by rw [HV2.out]; rfl⟩
  clear hvl ht hu hr hgl hA hB0 hue hve
  go_wp2_with fail
  rw [HW1.out]
  obtain ⟨m0, m1, m2, _, hw1⟩ := HA.out W1 (Below.refl _ _)
  have q0 := cellH m0 0
  have q1 := cellH m0 1
  have q2 := cellH m0 2
  have r0 := cellH m1 0
  have r1 := cellH m1 1
  have s0 := cellH m2 0
  have s1 := cellH m2 1
  simp at q0 q1 q2 r0 r1 s0 s1
  clear m0 m1 m2
  go_wp2_with fail
  rw [HE4.out]
  have hbs : Below W4.heap.size W4 (W4.alloc (.cells #[.int .i64 up, .int .i64 rise] 3)) := (Below.refl _ W4).alloc (Nat.le_refl _) _
  have hb14 := HW4.out.2.1.trans (hbs.mono HW4.out.2.1.size)
  have HBS := Lib.hid (HB0.out.trans (hb14.mono HB0.out.size))
  have hr2 : INRow (W4.alloc (.cells #[.int .i64 up, .int .i64 rise] 3)) (.slice (some ⟨w.heap.size + 6, 0, none⟩) 2 2) [up, rise] := by
    have := ints2 W4 up rise
    rw [HW4.out.2.2] at this; exact this
  refine (HC1.out _ HBS.out _ hr2).mono ?_
  rintro e w2 ⟨rfl, hb2⟩
  have hb4 := hbs.trans (hb2.mono hbs.size)
  have HD2 := Lib.hid hb4
  have HB2 := Lib.hid (HBS.out.trans (hb2.mono HBS.out.size))
  have hB := HW4.out.1.keep (Y := w2) (fun i hi => hb4.block i (by have := HW4.out.2.2; omega))
  have z0 := cellH hB.x 0
  have z1 := cellH hB.x 1
  have zf := freeH hB.x
  have y0 := cellH hB.b 0
  have yf := freeH hB.b
  have x0 := cellH hB.e 0
  have xf := freeH hB.e
  simp at z0 z1 y0 x0
  have HBB := Lib.hid hB
  clear hb2 hbs hb14 hb4 hr2 hB
  clear q0 q1 q2 r0 r1 s0 s1
  obtain ⟨m0, m1, m2, _, hw2⟩ := HA.out w2 (HW4.out.2.1.trans (HD2.out.mono HW4.out.2.1.size))
  have q0 := cellH m0 0
  have q1 := cellH m0 1
  have q2 := cellH m0 2
  have r0 := cellH m1 0
  have r1 := cellH m1 1
  have s0 := cellH m2 0
  have s1 := cellH m2 1
  simp at q0 q1 q2 r0 r1 s0 s1
  clear m0 m1 m2
  clear hw1 hw2 z0 z1 zf y0 yf x0 xf
  go_wp2_with fail
  refine (HCB.out _ HB2.out).mono ?_
  rintro e w3 ⟨M, A, B, F, T, rfl, hb3, hst⟩
  have HB3 := Lib.hid (HB2.out.trans (hb3.mono HB2.out.size))
  have HRR : Hid (B3 (w.heap.size + 3) w3 (0, 0) false 0) := Lib.hid (HBB.out.keep (fun i hi => hb3.block i (by have := HBB.out.size; omega)))
  have HI : Hid (BkI w.heap.size M A B F T wd hg o g a b u v w3) := Lib.hid ⟨hst, HG.out.keep HB3.out.size (fun k C t fr hk hn => HB3.out.block k hn)⟩
  clear hb3 hst
  clear q0 q1 q2 r0 r1 s0 s1
  unfold bkV
  go_wp2_with fail
  refine wpIn_wide.1 (?_ : Code.wpIn Fence.wide 7 _ _ _ _ _)
  refine rangeN (n := 7) (gf := 77) (lb := #[.pointer (some ⟨M, 0, none⟩), .pointer (some ⟨A, 0, none⟩), .pointer (some ⟨B, 0, none⟩), .pointer (some ⟨F, 0, none⟩), .pointer (some ⟨T, 0, none⟩)]) rfl (enters_of Try.func77 (by kernel_rfl) rfl)
    (blocks1_seq 6 w.heap.size M A B F T wd hg o g a b u v hm ha hb hu2 hv2) ?st (fun A B h => KpP.of_below h) (fun _ _ _ h k => h.trans k) (fun Y l ob ob' _ h hc _ => KpP.putObj h hc) (fun _ => rfl)
    (fun pre Y => pre = [] ∧ Below w.heap.size w Y ∧ B3 (w.heap.size + 3) Y (0, 0) false 0)
    (fun c pre Y => c = .ret ∧ Below w.heap.size w Y ∧ ∃ x, pre = [x] ∧ B3 (w.heap.size + 3) Y x true 0) ?i ?ix ?ii ?iix ?h0
    (fun x a' Y => ∃ p, a' = { tmps := #[.agg #[.int .i64 wd, .int .i64 hg, o], .agg #[.int .i64 a.1, .int .i64 a.2], .int .i64 up, .agg #[.int .i64 b.1, .int .i64 b.2], .int .i64 rise, .pointer (some ⟨w.heap.size, 0, none⟩), .pointer (some ⟨w.heap.size + 1, 0, none⟩), undef, .pointer (some ⟨w.heap.size + 2, 0, none⟩), undef, .pointer (some ⟨w.heap.size + 3, 0, none⟩), .pointer (some ⟨w.heap.size + 4, 0, none⟩), .pointer (some ⟨w.heap.size + 5, 0, none⟩), .pointer (some ⟨p, 0, none⟩), .agg #[.int .i64 wd, .int .i64 hg, o], .agg #[.int .i64 a.1, .int .i64 a.2], .agg #[.int .i64 b.1, .int .i64 b.2], .int .i64 up, .int .i64 rise, .slice (some ⟨w.heap.size + 6, 0, none⟩) 2 2, .bool true, .bool false, undef, .agg #[.int .i64 wd, .int .i64 hg, o], .agg #[.int .i64 a.1, .int .i64 a.2], .int .i64 up, .agg #[.int .i64 b.1, .int .i64 b.2], .int .i64 rise, .func (.func 77) #[] #[.pointer (some ⟨M, 0, none⟩), .pointer (some ⟨A, 0, none⟩), .pointer (some ⟨B, 0, none⟩), .pointer (some ⟨F, 0, none⟩), .pointer (some ⟨T, 0, none⟩)], .agg #[.int .i64 x.1, .int .i64 x.2], undef, undef], defers := [] } ∧ Y.heap[p]? = some (.cells #[.int .i64 x.1, .int .i64 x.2] 60 (0, 0))) ?hv ?assign ?body ?done ?stop
  case st => exact fun ob ob' => HI.out.below (((Below.refl _ w3).alloc (Nat.le_refl _) ob).alloc (by simp) ob')
  case i => exact fun s A B row h hg hr => ⟨h.1, h.2.1.grown hg (by exact h.2.1.size) (fun r e => by have := (hr r e).1; have := HB3.out.size; omega), h.2.2.keep (fun i hi => hg.block i (by have := h.2.2.size; omega) (fun e => by have := (hr _ e.symm).1; have := HRR.out.size; omega))⟩
  case ix =>
    rintro c s A B row ⟨h1, h2, x, h3, h4⟩ hg hr
    exact ⟨h1, h2.grown hg (by exact h2.size) (fun r e => by have := (hr r e).1; have := HB3.out.size; omega), x, h3, h4.keep (fun i hi => hg.block i (by have := h4.size; omega) (fun e => by have := (hr _ e.symm).1; have := HRR.out.size; omega))⟩
  case ii => exact fun s A B h k => ⟨h.1, k.below h.2.1 (by have := HB3.out.size; omega), h.2.2.keep (fun i hi => k.low i (by have := HRR.out.size; omega))⟩
  case iix =>
    rintro c s A B ⟨h1, h2, x, h3, h4⟩ k
    exact ⟨h1, k.below h2 (by have := HB3.out.size; omega), x, h3, h4.keep (fun i hi => k.low i (by have := HRR.out.size; omega))⟩
  case h0 => exact ⟨rfl, HB3.out, HRR.out⟩
  case hv =>
    rintro x a' _ A B row ⟨p, h1, h2⟩ hg hr
    refine ⟨p, h1, (hg.block p (Array.getElem?_eq_some_iff.1 h2).1 (fun q => ?_)).trans h2⟩
    obtain ⟨_, ob, ho, hoc⟩ := hr p q.symm
    rw [h2] at ho; cases ho; cases hoc
  case assign =>
    intro l' pre x Y K hI hK
    gi_wp2
    exact hK _ _ ((Below.refl _ Y).alloc (Nat.le_refl _) _) ⟨Y.heap.size, rfl, heap_alloc_new _ _⟩
  case body =>
    rintro l' pre x a' Y ⟨rfl, hBY, hRY⟩ ⟨p, rfl, hp⟩ hlt
    have p0 := cellH hp 0
    have p1 := cellH hp 1
    have z0 := cellH hRY.x 0
    have z1 := cellH hRY.x 1
    have zf := freeH hRY.x
    have y0 := cellH hRY.b 0
    have yf := freeH hRY.b
    have x0 := cellH hRY.e 0
    have xf := freeH hRY.e
    simp at p0 p1 z0 z1 y0 x0
    have HNB := Lib.hid (hRY.set (x.1, x.2) true 0)
    have HBY := Lib.hid ((((hBY.setCell (p := ⟨w.heap.size + 3, 0, none⟩) (by simp) (.int .i64 x.1)).setCell (p := ⟨w.heap.size + 3, 1, none⟩) (by simp) (.int .i64 x.2)).setCell (p := ⟨w.heap.size + 4, 0, none⟩) (by simp) (.bool true)).setCell (p := ⟨w.heap.size + 5, 0, none⟩) (by simp) (.int .i64 0))
    clear hBY hRY hp hlt
    gi_wp2
    exact ⟨((((KeepsOthers.setCell _ _ _).trans (KeepsOthers.setCell _ _ _)).trans (KeepsOthers.setCell _ _ _)).trans (KeepsOthers.setCell _ _ _)).from _, rfl, HBY.out, x.1, x.2, rfl, HNB.out⟩
  case done =>
    rintro D Y hD ⟨hL, hBY, hRY⟩ hK
    have z0 := cellH hRY.x 0
    have z1 := cellH hRY.x 1
    have zf := freeH hRY.x
    have y0 := cellH hRY.b 0
    have yf := freeH hRY.b
    have x0 := cellH hRY.e 0
    have xf := freeH hRY.e
    simp at z0 z1 y0 x0
    have HNB := Lib.hid (hRY.set (0, 0) false 0)
    have HBY := Lib.hid ((((hBY.setCell (p := ⟨w.heap.size + 3, 0, none⟩) (by simp) (.int .i64 0)).setCell (p := ⟨w.heap.size + 3, 1, none⟩) (by simp) (.int .i64 0)).setCell (p := ⟨w.heap.size + 4, 0, none⟩) (by simp) (.bool false)).setCell (p := ⟨w.heap.size + 5, 0, none⟩) (by simp) (.int .i64 0))
    have HK : Hid (((((Y.setCell ⟨w.heap.size + 3, 0, none⟩ (.int .i64 0)).setCell ⟨w.heap.size + 3, 1, none⟩ (.int .i64 0)).setCell ⟨w.heap.size + 4, 0, none⟩ (.bool false)).setCell ⟨w.heap.size + 5, 0, none⟩ (.int .i64 0)).heap[D]? = some (.deferred (some []))) := Lib.hid (by
      have n1 : D ≠ w.heap.size + 3 := fun e => by rw [e, hRY.x] at hK; cases hK
      have n2 : D ≠ w.heap.size + 4 := fun e => by rw [e, hRY.b] at hK; cases hK
      have n3 : D ≠ w.heap.size + 5 := fun e => by rw [e, hRY.e] at hK; cases hK
      rw [heap_other _ _ _ _ _ n3, heap_other _ _ _ _ _ n2, heap_other _ _ _ _ _ n1, heap_other _ _ _ _ _ n1]; exact hK)
    have HF : Hid (bkF wd hg g a up b rise = none) := Lib.hid (by rw [HN.out.1, hL]; rfl)
    clear hBY hRY hK hL
    simp only [Exit.inBlock, Exit.then]
    go_wp2_with fail
    try rw [Exit.noGoto_ret]
    exact leaves_marks5 (F := Fence.wide) (n := 7) w.heap.size [D] _ (by simp) (fun D' hD' => by
      obtain rfl : D' = D := by simpa using hD'
      exact ⟨by have := HRR.out.size; omega, HK.out⟩) (fun W' hk hb' => ⟨_, block_results rfl rfl rfl (HNB.out.kc5 hk).x (cellH (HNB.out.kc5 hk).b 0) (cellH (HNB.out.kc5 hk).e 0), by rw [HF.out, HN.out.2]; rfl, HBY.out.trans hb'⟩)
  case stop =>
    rintro D c pre Y hD hpre ⟨rfl, hBY, x, rfl, hRY⟩ hK
    have HNB := Lib.hid hRY
    have HBY := Lib.hid hBY
    have HK := Lib.hid hK
    have HF : Hid (bkF wd hg g a up b rise = some x) := Lib.hid (by
      rw [HN.out.1]
      obtain ⟨t, ht⟩ := hpre
      rw [← ht]; rfl)
    clear hBY hRY hK hpre
    gi_wp2
    try rw [Exit.noGoto_ret]
    exact leaves_marks5 (F := Fence.wide) (n := 7) w.heap.size [D] _ (by simp) (fun D' hD' => by
      obtain rfl : D' = D := by simpa using hD'
      exact ⟨by have := HRR.out.size; omega, HK.out⟩) (fun W' hk hb' => ⟨_, block_results rfl rfl rfl (HNB.out.kc5 hk).x (cellH (HNB.out.kc5 hk).b 0) (cellH (HNB.out.kc5 hk).e 0), by rw [HF.out, HN.out.2]; rfl, HBY.out.trans hb'⟩)
end Go.Proofs.Ytnacgogcbbpjmaa
