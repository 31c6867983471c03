/- Clear of package ridge. -/
import Derived.Test.YtjllkmekchmmbaaHA9
set_option linter.unusedVariables false
set_option linter.unusedSimpArgs false
namespace Go.Proofs.Ytjllkmekchmmbaa
open Go Go.RowKit

theorem ints2 (W : World) (x y : Int) : INRow (W.alloc (.cells #[.int .i64 x, .int .i64 y] 3)) (.slice (some ⟨W.heap.size, 0, none⟩) 2 2) [x, y] := by
  refine .inr ⟨W.heap.size, 0, 2, rfl, by simp, fun i hi => ?_⟩
  have h : (W.alloc (.cells #[.int .i64 x, .int .i64 y] 3)).heap[W.heap.size]? = some (.cells #[.int .i64 x, .int .i64 y] 3 (0, 0)) := heap_alloc_new _ _
  rw [Nat.zero_add, cellH h]
  match i, hi with
  | 0, _ => rfl
  | 1, _ => rfl
theorem ints1 (W : World) (x : Int) : INRow (W.alloc (.cells #[.int .i64 x] 3)) (.slice (some ⟨W.heap.size, 0, none⟩) 1 1) [x] := by
  refine .inr ⟨W.heap.size, 0, 1, rfl, by simp, fun i hi => ?_⟩
  have h : (W.alloc (.cells #[.int .i64 x] 3)).heap[W.heap.size]? = some (.cells #[.int .i64 x] 3 (0, 0)) := heap_alloc_new _ _
  rw [Nat.zero_add, cellH h]
  match i, hi with
  | 0, _ => rfl
theorem vlB_ok {wd hg : Int} {g : List Int} {a b : Pl} {l : List Int} (h : vlB wd hg g a b l = true) : vmB wd hg g = true ∧ onB wd hg a = true ∧ onB wd hg b = true ∧ ∀ n ∈ l, 0 ≤ n ∧ n ≤ 200 := by
  unfold vlB tallB at h
  simp only [Bool.and_eq_true, List.all_eq_true] at h
  obtain ⟨⟨⟨h1, h2⟩, h3⟩, h4⟩ := h
  refine ⟨h1, h2, h3, fun n hn => ?_⟩
  have := h4 n hn
  unfold wiB at this
  simp only [Bool.and_eq_true, decide_eq_true_eq] at this
  exact this
/-- Whether a line is free, if it is one. -/
def clB (wd hg : Int) (g : List Int) (a : Pl) (up : Int) (b : Pl) (rise : Int) : Bool := vlB wd hg g a b [up, rise] && freeB g wd a up b rise
def lnE (wd hg : Int) (g : List Int) (a b : Pl) (l : List Int) : Int := if vlB wd hg g a b l = true then 0 else 1

set_option maxRecDepth 100000 in
set_option maxHeartbeats 4000000 in
theorem Clear_any (wd hg : Int) (o : Value) (g : List Int) (a b : Pl) (up rise : Int) (w : World) (hv : INRow w o g) (hl : g.length ≤ 9223372036854775807) :
    Calls Try.prog 33 #[mpV wd hg o, plV a, .int .i64 up, plV b, .int .i64 rise] w fun e w' => e = .returned (.tuple #[.bool (clB wd hg g a up b rise), .int .i64 (lnE wd hg g a b [up, rise])]) ∧ Below w.heap.size w w' := by
  have HC1 := Lib.hid (fun w' (h : Below w.heap.size w w') v (hu : INRow w' v [up, rise]) => validLine_any wd hg o g a b v [up, rise] w' (hv.keep h) hl hu (by simp))
  have HV := Lib.hid hv
  clear hv hl
  have HV1 : Hid (clB wd hg g a up b rise = (vlB wd hg g a b [up, rise] && freeB g wd a up b rise)) := Lib.hid rfl
  have HV2 : Hid (lnE wd hg g a b [up, rise] = if vlB wd hg g a b [up, rise] = true then 0 else 1) := Lib.hid rfl
  unfold mpV plV at HC1
  have HA := Lib.hid (fun W' => three_cells w #[.int .i64 wd, .int .i64 hg, o] #[.int .i64 a.1, .int .i64 a.2] #[.int .i64 b.1, .int .i64 b.2] 24 30 30 (W := W'))
  have HB0 := Lib.hid ((((Below.refl _ w).alloc (Nat.le_refl w.heap.size) (.cells #[.int .i64 wd, .int .i64 hg, o] 24)).alloc (by simp) (.cells #[.int .i64 a.1, .int .i64 a.2] 30)).alloc (by simp; omega) (.cells #[.int .i64 b.1, .int .i64 b.2] 30))
  obtain ⟨W1, hW1⟩ : ∃ W1, ((w.alloc (.cells #[.int .i64 wd, .int .i64 hg, o] 24)).alloc (.cells #[.int .i64 a.1, .int .i64 a.2] 30)).alloc (.cells #[.int .i64 b.1, .int .i64 b.2] 30) = W1 := ⟨_, rfl⟩
  have HSZ1 : Hid (W1.heap.size = w.heap.size + 3) := Lib.hid (by rw [← hW1]; simp)
  rw [hW1] at HA HB0
  have HW1 := Lib.hid hW1
  have ead : w.heap.size + 1 + 1 = w.heap.size + 2 := rfl
  clear hW1
  by_cases hvl : vlB wd hg g a b [up, rise] = true
  case neg =>
    have hvl' : vlB wd hg g a b [up, rise] = false := by simpa using hvl
    rw [hvl'] at HC1 HV1 HV2
    have HN : Hid (clB wd hg g a up b rise = false ∧ lnE wd hg g a b [up, rise] = 1) := Lib.hid ⟨by rw [HV1.out]; rfl, by rw [HV2.out]; rfl⟩
    clear hvl hvl'
    unfold mpV plV
    go_enter Try.func33, Try.ntmps33
    go_wp2_with fail
    rw [HW1.out]
    obtain ⟨m0, m1, m2, _, hw1⟩ := HA.out W1 (Below.refl _ _)
    have q0 := cellH m0 0
    have q1 := cellH m0 1
    have q2 := cellH m0 2
    have r0 := cellH m1 0
    have r1 := cellH m1 1
    have s0 := cellH m2 0
    have s1 := cellH m2 1
    simp at q0 q1 q2 r0 r1 s0 s1
    clear m0 m1 m2
    go_wp2_with fail
    have hbs : Below W1.heap.size W1 (W1.alloc (.cells #[.int .i64 up, .int .i64 rise] 3)) := (Below.refl _ W1).alloc (Nat.le_refl _) _
    have HBS := Lib.hid (HB0.out.trans (hbs.mono HB0.out.size))
    clear hbs
    have hr2 : INRow (W1.alloc (.cells #[.int .i64 up, .int .i64 rise] 3)) (.slice (some ⟨w.heap.size + 2 + 1, 0, none⟩) 2 2) [up, rise] := by
      have := ints2 W1 up rise
      rw [HSZ1.out] at this; exact this
    refine (HC1.out _ HBS.out _ hr2).mono ?_
    rintro e w2 ⟨rfl, hb2⟩
    have HB2 := Lib.hid (HBS.out.trans (hb2.mono HBS.out.size))
    clear hb2 q0 q1 q2 r0 r1 s0 s1
    go_wp2_with fail
    go_ret2
    exact ⟨ret_val' (by rw [HN.out.1, HN.out.2]; rfl), HB2.out⟩
  rw [hvl] at HC1 HV1 HV2
  obtain ⟨hm, ha, hb, ht⟩ := vlB_ok hvl
  have hu := ht up (by simp)
  have hr := ht rise (by simp)
  have HC2 := Lib.hid (fun w' (h : Below w.heap.size w w') => free_any wd hg o g a b up rise w' (HV.out.keep h) hm ha hb hu hr)
  unfold mpV plV at HC2
  have HN : Hid (clB wd hg g a up b rise = freeB g wd a up b rise ∧ lnE wd hg g a b [up, rise] = 0) := Lib.hid ⟨by rw [HV1.out]; simp, by rw [HV2.out]; rfl⟩
  obtain ⟨fb, hfb⟩ : ∃ x, freeB g wd a up b rise = x := ⟨_, rfl⟩
  rw [hfb] at HC2 HN
  clear hvl hm ha hb ht hu hr hfb
  unfold mpV plV
  go_enter Try.func33, Try.ntmps33
  go_wp2_with fail
  rw [HW1.out]
  obtain ⟨m0, m1, m2, _, hw1⟩ := HA.out W1 (Below.refl _ _)
  have q0 := cellH m0 0
  have q1 := cellH m0 1
  have q2 := cellH m0 2
  have r0 := cellH m1 0
  have r1 := cellH m1 1
  have s0 := cellH m2 0
  have s1 := cellH m2 1
  simp at q0 q1 q2 r0 r1 s0 s1
  clear m0 m1 m2
  go_wp2_with fail
  have hbs : Below W1.heap.size W1 (W1.alloc (.cells #[.int .i64 up, .int .i64 rise] 3)) := (Below.refl _ W1).alloc (Nat.le_refl _) _
  have HBS := Lib.hid (HB0.out.trans (hbs.mono HB0.out.size))
  have hr2 : INRow (W1.alloc (.cells #[.int .i64 up, .int .i64 rise] 3)) (.slice (some ⟨w.heap.size + 2 + 1, 0, none⟩) 2 2) [up, rise] := by
    have := ints2 W1 up rise
    rw [HSZ1.out] at this; exact this
  refine (HC1.out _ HBS.out _ hr2).mono ?_
  rintro e w2 ⟨rfl, hb2⟩
  have HD2 := Lib.hid (hbs.trans (hb2.mono hbs.size))
  clear q0 q1 q2 r0 r1 s0 s1
  obtain ⟨m0, m1, m2, _, hw2⟩ := HA.out w2 HD2.out
  have q0 := cellH m0 0
  have q1 := cellH m0 1
  have q2 := cellH m0 2
  have r0 := cellH m1 0
  have r1 := cellH m1 1
  have s0 := cellH m2 0
  have s1 := cellH m2 1
  simp at q0 q1 q2 r0 r1 s0 s1
  clear m0 m1 m2
  have HB2 := Lib.hid hw2
  clear hb2 hbs hw1 hw2
  go_wp2_with fail
  refine (HC2.out _ HB2.out).mono ?_
  rintro e w3 ⟨rfl, hb3⟩
  have HB3 := Lib.hid (HB2.out.trans (hb3.mono HB2.out.size))
  clear hb3
  clear q0 q1 q2 r0 r1 s0 s1
  go_wp2_with fail
  go_ret2
  exact ⟨ret_val' (by rw [HN.out.1, HN.out.2]; rfl), HB3.out⟩
end Go.Proofs.Ytjllkmekchmmbaa
