/- Needed and Tall of package ridge. -/
import Derived.Test.YtjllkmekchmmbaaHB4
set_option linter.unusedVariables false
set_option linter.unusedSimpArgs false
namespace Go.Proofs.Ytjllkmekchmmbaa
open Go Go.RowKit

set_option maxRecDepth 100000 in
set_option maxHeartbeats 4000000 in
theorem Needed_any (wd hg : Int) (o : Value) (g : List Int) (a b : Pl) (up : Int) (w : World) (hv : INRow w o g) (hl : g.length ≤ 9223372036854775807) :
    Calls Try.prog 34 #[mpV wd hg o, plV a, .int .i64 up, plV b] w fun e w' => e = .returned (.tuple #[.int .i64 (if vlB wd hg g a b [up] = true then ndI g wd a up b else 0), .int .i64 (lnE wd hg g a b [up])]) ∧ Below w.heap.size w w' := by
  have HC1 := Lib.hid (fun w' (h : Below w.heap.size w w') v (hu : INRow w' v [up]) => validLine_any wd hg o g a b v [up] w' (hv.keep h) hl hu (by simp))
  have HV := Lib.hid hv
  clear hv hl
  have HV2 : Hid (lnE wd hg g a b [up] = if vlB wd hg g a b [up] = true then 0 else 1) := Lib.hid rfl
  unfold mpV plV at HC1
  have HA := Lib.hid (fun W' => three_cells w #[.int .i64 wd, .int .i64 hg, o] #[.int .i64 a.1, .int .i64 a.2] #[.int .i64 b.1, .int .i64 b.2] 24 30 30 (W := W'))
  have HB0 := Lib.hid ((((Below.refl _ w).alloc (Nat.le_refl w.heap.size) (.cells #[.int .i64 wd, .int .i64 hg, o] 24)).alloc (by simp) (.cells #[.int .i64 a.1, .int .i64 a.2] 30)).alloc (by simp; omega) (.cells #[.int .i64 b.1, .int .i64 b.2] 30))
  obtain ⟨W1, hW1⟩ : ∃ W1, ((w.alloc (.cells #[.int .i64 wd, .int .i64 hg, o] 24)).alloc (.cells #[.int .i64 a.1, .int .i64 a.2] 30)).alloc (.cells #[.int .i64 b.1, .int .i64 b.2] 30) = W1 := ⟨_, rfl⟩
  have HSZ1 : Hid (W1.heap.size = w.heap.size + 3) := Lib.hid (by rw [← hW1]; simp)
  rw [hW1] at HA HB0
  have HW1 := Lib.hid hW1
  have ead : w.heap.size + 1 + 1 = w.heap.size + 2 := rfl
  clear hW1
  by_cases hvl : vlB wd hg g a b [up] = true
  case neg =>
    have hvl' : vlB wd hg g a b [up] = false := by simpa using hvl
    rw [hvl'] at HC1 HV2 ⊢
    have HN : Hid (lnE wd hg g a b [up] = 1) := Lib.hid (by rw [HV2.out]; rfl)
    rw [HN.out, if_neg (by decide)]
    clear hvl hvl'
    unfold mpV plV
    go_enter Try.func34, Try.ntmps34
    go_wp2_with fail
    rw [HW1.out]
    obtain ⟨m0, m1, m2, _, hw1⟩ := HA.out W1 (Below.refl _ _)
    have q0 := cellH m0 0
    have q1 := cellH m0 1
    have q2 := cellH m0 2
    have r0 := cellH m1 0
    have r1 := cellH m1 1
    have s0 := cellH m2 0
    have s1 := cellH m2 1
    simp at q0 q1 q2 r0 r1 s0 s1
    clear m0 m1 m2
    go_wp2_with fail
    have hbs : Below W1.heap.size W1 (W1.alloc (.cells #[.int .i64 up] 3)) := (Below.refl _ W1).alloc (Nat.le_refl _) _
    have HBS := Lib.hid (HB0.out.trans (hbs.mono HB0.out.size))
    clear hbs
    have hr2 : INRow (W1.alloc (.cells #[.int .i64 up] 3)) (.slice (some ⟨w.heap.size + 2 + 1, 0, none⟩) 1 1) [up] := by
      have := ints1 W1 up
      rw [HSZ1.out] at this; exact this
    refine (HC1.out _ HBS.out _ hr2).mono ?_
    rintro e w2 ⟨rfl, hb2⟩
    have HB2 := Lib.hid (HBS.out.trans (hb2.mono HBS.out.size))
    clear hb2 q0 q1 q2 r0 r1 s0 s1
    go_wp2_with fail
    go_ret2
    exact ⟨rfl, HB2.out⟩
  rw [hvl] at HC1 HV2
  rw [if_pos hvl]
  obtain ⟨hm, ha, hb, ht⟩ := vlB_ok hvl
  have hu := ht up (by simp)
  have HC2 := Lib.hid (fun w' (h : Below w.heap.size w w') => needed_any wd hg o g a b up w' (HV.out.keep h) hm ha hb hu)
  unfold mpV plV at HC2
  have HN : Hid (lnE wd hg g a b [up] = 0) := Lib.hid (by rw [HV2.out]; rfl)
  rw [HN.out]
  obtain ⟨fb, hfb⟩ : ∃ x, ndI g wd a up b = x := ⟨_, rfl⟩
  rw [hfb] at HC2 ⊢
  clear hvl hm ha hb ht hu hfb
  unfold mpV plV
  go_enter Try.func34, Try.ntmps34
  go_wp2_with fail
  rw [HW1.out]
  obtain ⟨m0, m1, m2, _, hw1⟩ := HA.out W1 (Below.refl _ _)
  have q0 := cellH m0 0
  have q1 := cellH m0 1
  have q2 := cellH m0 2
  have r0 := cellH m1 0
  have r1 := cellH m1 1
  have s0 := cellH m2 0
  have s1 := cellH m2 1
  simp at q0 q1 q2 r0 r1 s0 s1
  clear m0 m1 m2
  go_wp2_with fail
  have hbs : Below W1.heap.size W1 (W1.alloc (.cells #[.int .i64 up] 3)) := (Below.refl _ W1).alloc (Nat.le_refl _) _
  have HBS := Lib.hid (HB0.out.trans (hbs.mono HB0.out.size))
  have hr2 : INRow (W1.alloc (.cells #[.int .i64 up] 3)) (.slice (some ⟨w.heap.size + 2 + 1, 0, none⟩) 1 1) [up] := by
    have := ints1 W1 up
    rw [HSZ1.out] at this; exact this
  refine (HC1.out _ HBS.out _ hr2).mono ?_
  rintro e w2 ⟨rfl, hb2⟩
  have HD2 := Lib.hid (hbs.trans (hb2.mono hbs.size))
  clear q0 q1 q2 r0 r1 s0 s1
  obtain ⟨m0, m1, m2, _, hw2⟩ := HA.out w2 HD2.out
  have q0 := cellH m0 0
  have q1 := cellH m0 1
  have q2 := cellH m0 2
  have r0 := cellH m1 0
  have r1 := cellH m1 1
  have s0 := cellH m2 0
  have s1 := cellH m2 1
  simp at q0 q1 q2 r0 r1 s0 s1
  clear m0 m1 m2
  have HB2 := Lib.hid hw2
  clear hb2 hbs hw1 hw2
  go_wp2_with fail
  refine (HC2.out _ HB2.out).mono ?_
  rintro e w3 ⟨rfl, hb3⟩
  have HB3 := Lib.hid (HB2.out.trans (hb3.mono HB2.out.size))
  clear hb3
  clear q0 q1 q2 r0 r1 s0 s1
  go_wp2_with fail
  go_ret2
  exact ⟨rfl, HB3.out⟩
set_option maxRecDepth 100000 in
set_option maxHeartbeats 4000000 in
theorem Tall_any (wd hg : Int) (o : Value) (g : List Int) (a b : Pl) (up : Int) (w : World) (hv : INRow w o g) (hl : g.length ≤ 9223372036854775807) :
    Calls Try.prog 35 #[mpV wd hg o, plV a, plV b, .int .i64 up] w fun e w' => e = .returned (.tuple #[.int .i64 (if vlB wd hg g a b [up] = true then ndI g wd b up a else 0), .int .i64 (lnE wd hg g a b [up])]) ∧ Below w.heap.size w w' := by
  have HC1 := Lib.hid (fun w' (h : Below w.heap.size w w') v (hu : INRow w' v [up]) => validLine_any wd hg o g a b v [up] w' (hv.keep h) hl hu (by simp))
  have HV := Lib.hid hv
  clear hv hl
  have HV2 : Hid (lnE wd hg g a b [up] = if vlB wd hg g a b [up] = true then 0 else 1) := Lib.hid rfl
  unfold mpV plV at HC1
  have HA := Lib.hid (fun W' => three_cells w #[.int .i64 wd, .int .i64 hg, o] #[.int .i64 a.1, .int .i64 a.2] #[.int .i64 b.1, .int .i64 b.2] 24 30 30 (W := W'))
  have HB0 := Lib.hid ((((Below.refl _ w).alloc (Nat.le_refl w.heap.size) (.cells #[.int .i64 wd, .int .i64 hg, o] 24)).alloc (by simp) (.cells #[.int .i64 a.1, .int .i64 a.2] 30)).alloc (by simp; omega) (.cells #[.int .i64 b.1, .int .i64 b.2] 30))
  obtain ⟨W1, hW1⟩ : ∃ W1, ((w.alloc (.cells #[.int .i64 wd, .int .i64 hg, o] 24)).alloc (.cells #[.int .i64 a.1, .int .i64 a.2] 30)).alloc (.cells #[.int .i64 b.1, .int .i64 b.2] 30) = W1 := ⟨_, rfl⟩
  have HSZ1 : Hid (W1.heap.size = w.heap.size + 3) := Lib.hid (by rw [← hW1]; simp)
  rw [hW1] at HA HB0
  have HW1 := Lib.hid hW1
  have ead : w.heap.size + 1 + 1 = w.heap.size + 2 := rfl
  clear hW1
  by_cases hvl : vlB wd hg g a b [up] = true
  case neg =>
    have hvl' : vlB wd hg g a b [up] = false := by simpa using hvl
    rw [hvl'] at HC1 HV2 ⊢
    have HN : Hid (lnE wd hg g a b [up] = 1) := Lib.hid (by rw [HV2.out]; rfl)
    rw [HN.out, if_neg (by decide)]
    clear hvl hvl'
    unfold mpV plV
    go_enter Try.func35, Try.ntmps35
    go_wp2_with fail
    rw [HW1.out]
    obtain ⟨m0, m1, m2, _, hw1⟩ := HA.out W1 (Below.refl _ _)
    have q0 := cellH m0 0
    have q1 := cellH m0 1
    have q2 := cellH m0 2
    have r0 := cellH m1 0
    have r1 := cellH m1 1
    have s0 := cellH m2 0
    have s1 := cellH m2 1
    simp at q0 q1 q2 r0 r1 s0 s1
    clear m0 m1 m2
    go_wp2_with fail
    have hbs : Below W1.heap.size W1 (W1.alloc (.cells #[.int .i64 up] 3)) := (Below.refl _ W1).alloc (Nat.le_refl _) _
    have HBS := Lib.hid (HB0.out.trans (hbs.mono HB0.out.size))
    clear hbs
    have hr2 : INRow (W1.alloc (.cells #[.int .i64 up] 3)) (.slice (some ⟨w.heap.size + 2 + 1, 0, none⟩) 1 1) [up] := by
      have := ints1 W1 up
      rw [HSZ1.out] at this; exact this
    refine (HC1.out _ HBS.out _ hr2).mono ?_
    rintro e w2 ⟨rfl, hb2⟩
    have HB2 := Lib.hid (HBS.out.trans (hb2.mono HBS.out.size))
    clear hb2 q0 q1 q2 r0 r1 s0 s1
    go_wp2_with fail
    go_ret2
    exact ⟨rfl, HB2.out⟩
  rw [hvl] at HC1 HV2
  rw [if_pos hvl]
  obtain ⟨hm, ha, hb, ht⟩ := vlB_ok hvl
  have hu := ht up (by simp)
  have HC2 := Lib.hid (fun w' (h : Below w.heap.size w w') => needed_any wd hg o g b a up w' (HV.out.keep h) hm hb ha hu)
  unfold mpV plV at HC2
  have HN : Hid (lnE wd hg g a b [up] = 0) := Lib.hid (by rw [HV2.out]; rfl)
  rw [HN.out]
  obtain ⟨fb, hfb⟩ : ∃ x, ndI g wd b up a = x := ⟨_, rfl⟩
  rw [hfb] at HC2 ⊢
  clear hvl hm ha hb ht hu hfb
  unfold mpV plV
  go_enter Try.func35, Try.ntmps35
  go_wp2_with fail
  rw [HW1.out]
  obtain ⟨m0, m1, m2, _, hw1⟩ := HA.out W1 (Below.refl _ _)
  have q0 := cellH m0 0
  have q1 := cellH m0 1
  have q2 := cellH m0 2
  have r0 := cellH m1 0
  have r1 := cellH m1 1
  have s0 := cellH m2 0
  have s1 := cellH m2 1
  simp at q0 q1 q2 r0 r1 s0 s1
  clear m0 m1 m2
  go_wp2_with fail
  have hbs : Below W1.heap.size W1 (W1.alloc (.cells #[.int .i64 up] 3)) := (Below.refl _ W1).alloc (Nat.le_refl _) _
  have HBS := Lib.hid (HB0.out.trans (hbs.mono HB0.out.size))
  have hr2 : INRow (W1.alloc (.cells #[.int .i64 up] 3)) (.slice (some ⟨w.heap.size + 2 + 1, 0, none⟩) 1 1) [up] := by
    have := ints1 W1 up
    rw [HSZ1.out] at this; exact this
  refine (HC1.out _ HBS.out _ hr2).mono ?_
  rintro e w2 ⟨rfl, hb2⟩
  have HD2 := Lib.hid (hbs.trans (hb2.mono hbs.size))
  clear q0 q1 q2 r0 r1 s0 s1
  obtain ⟨m0, m1, m2, _, hw2⟩ := HA.out w2 HD2.out
  have q0 := cellH m0 0
  have q1 := cellH m0 1
  have q2 := cellH m0 2
  have r0 := cellH m1 0
  have r1 := cellH m1 1
  have s0 := cellH m2 0
  have s1 := cellH m2 1
  simp at q0 q1 q2 r0 r1 s0 s1
  clear m0 m1 m2
  have HB2 := Lib.hid hw2
  clear hb2 hbs hw1 hw2
  go_wp2_with fail
  refine (HC2.out _ HB2.out).mono ?_
  rintro e w3 ⟨rfl, hb3⟩
  have HB3 := Lib.hid (HB2.out.trans (hb3.mono HB2.out.size))
  clear hb3
  clear q0 q1 q2 r0 r1 s0 s1
  go_wp2_with fail
  go_ret2
  exact ⟨rfl, HB3.out⟩
end Go.Proofs.Ytjllkmekchmmbaa
