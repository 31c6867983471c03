/- RidgeNeeds: Needed and Tall answer as the reference does. -/
import Derived.Test.YtkipncjagiidoaaHE7
import Derived.Test.YtkipncjagiidoaaHC3
import Derived.Test.YtkipncjagiidoaaHD2
set_option linter.unusedVariables false
set_option linter.unusedSimpArgs false
namespace Go.Proofs.Ytkipncjagiidoaa
open Go Go.RowKit

theorem vl_swap (wd hg : Int) (g : List Int) (a b : Pl) (l : List Int) : vlB wd hg g a b l = vlB wd hg g b a l := by
  unfold vlB
  cases vmB wd hg g <;> cases onB wd hg a <;> cases onB wd hg b <;> rfl
set_option maxRecDepth 100000 in
set_option maxHeartbeats 4000000 in
theorem rTall_any (wd hg : Int) (o : Value) (g : List Int) (a b : Pl) (rise : Int) (w : World) (hv : INRow w o g) (hl : g.length ≤ 9223372036854775807) :
    Calls Try.prog 36 #[mpV wd hg o, plV a, plV b, .int .i64 rise] w fun e w' => e = .returned (.tuple #[.int .i64 (if vlB wd hg g a b [rise] = true then ndI g wd b rise a else 0), .int .i64 (lnE wd hg g a b [rise])]) ∧ Below w.heap.size w w' := by
  have HS := Lib.hid (fun w' (h : Below w.heap.size w w') => by have h2 := rsight_any wd hg o g a b 0 rise w' (hv.keep h) hl; rw [(ln_zero wd hg g a b rise).2] at h2; exact h2)
  have HND := Lib.hid (fun w' (h : Below w.heap.size w w') => rNeeded_any wd hg o g b a rise w' (hv.keep h) hl)
  obtain ⟨W1, hW1, hb0, hs1, hrd⟩ := three_reads w wd hg o a b
  have HW1 := Lib.hid hW1; have HB0 := Lib.hid hb0; have HRD := Lib.hid hrd
  clear hW1 hb0 hrd hv
  have ead : w.heap.size + 1 + 1 = w.heap.size + 2 := rfl
  unfold mpV plV at HS HND
  unfold mpV plV
  cases q1 : vlB wd hg g a b [rise]
  · have HN : Hid (lnE wd hg g a b [rise] = 1) := Lib.hid (by unfold lnE; rw [q1]; rfl)
    rw [HN.out] at HS
    rw [HN.out, if_neg (by decide)]
    clear q1
    go_enter Try.func36, Try.ntmps36
    go_wp2_with fail
    rw [← HW1.out]
    obtain ⟨p0, p1, p2, p3, p4, p5, p6⟩ := HRD.out W1 (Below.refl _ _)
    go_wp2_with fail
    refine (HS.out _ HB0.out).mono ?_
    rintro e w2 ⟨rfl, hb2⟩
    have HB2 := Lib.hid (HB0.out.trans (hb2.mono HB0.out.size))
    clear hb2 p0 p1 p2 p3 p4 p5 p6
    go_wp2_with fail
    go_ret2
    exact ⟨rfl, HB2.out⟩
  have HN : Hid (lnE wd hg g a b [rise] = 0) := Lib.hid (by unfold lnE; rw [q1]; rfl)
  have HN2 : Hid (lnE wd hg g b a [rise] = 0) := Lib.hid (by unfold lnE; rw [← vl_swap, q1]; rfl)
  have HV2 : Hid (vlB wd hg g b a [rise] = true) := Lib.hid (by rw [← vl_swap, q1])
  rw [HN.out] at HS
  rw [HN2.out, HV2.out, if_pos rfl] at HND
  rw [HN.out, if_pos rfl]
  obtain ⟨nd, hnd⟩ : ∃ x, ndI g wd b rise a = x := ⟨_, rfl⟩
  rw [hnd] at HND ⊢
  clear q1 hnd
  go_enter Try.func36, Try.ntmps36
  go_wp2_with fail
  rw [← HW1.out]
  obtain ⟨p0, p1, p2, p3, p4, p5, p6⟩ := HRD.out W1 (Below.refl _ _)
  go_wp2_with fail
  refine (HS.out _ HB0.out).mono ?_
  rintro e w2 ⟨rfl, hb2⟩
  have HD2 := Lib.hid hb2
  have HB2 := Lib.hid (HB0.out.trans (hb2.mono HB0.out.size))
  clear hb2 p0 p1 p2 p3 p4 p5 p6
  obtain ⟨p0, p1, p2, p3, p4, p5, p6⟩ := HRD.out w2 HD2.out
  go_wp2_with fail
  refine (HND.out _ HB2.out).mono ?_
  rintro e w3 ⟨rfl, hb3⟩
  have HB3 := Lib.hid (HB2.out.trans (hb3.mono HB2.out.size))
  clear hb3 p0 p1 p2 p3 p4 p5 p6
  go_wp2_with fail
  go_ret2
  exact ⟨rfl, HB3.out⟩
set_option maxRecDepth 100000 in
set_option maxHeartbeats 8000000 in
theorem needs_law (wd hg : Int) (o : Value) (g : List Int) (a1 a2 hh b1 b2 : Int) (w : World) (hv : INRow w o g) (hl : g.length ≤ 9223372036854775807) :
    Calls Try.prog 6 #[mpV wd hg o, .agg #[.int .i64 a1, .int .i64 a2], .int .i64 hh, .agg #[.int .i64 b1, .int .i64 b2]] w fun e w' => e = .returned (.bool true) ∧ Below w.heap.size w w' := by
  have HGR := Lib.hid (fun w' (h : Below w.heap.size w w') => lground_any wd hg o g w' (hv.keep h) hl)
  have HND := Lib.hid (fun w' (h : Below w.heap.size w w') => Needed_any wd hg o g (a1, a2) (b1, b2) hh w' (hv.keep h) hl)
  have HTL := Lib.hid (fun w' (h : Below w.heap.size w w') => Tall_any wd hg o g (a1, a2) (b1, b2) hh w' (hv.keep h) hl)
  have HRN := Lib.hid (fun w' (h : Below w.heap.size w w') => rNeeded_any wd hg o g (a1, a2) (b1, b2) hh w' (hv.keep h) hl)
  have HRT := Lib.hid (fun w' (h : Below w.heap.size w w') => rTall_any wd hg o g (a1, a2) (b1, b2) hh w' (hv.keep h) hl)
  unfold mpV plV at HND HTL HRN HRT
  unfold mpV at HGR
  unfold mpV
  obtain ⟨W1, hW1, hb0, hs1, hrd⟩ := three_reads w wd hg o (a1, a2) (b1, b2)
  simp only at hW1 hrd HND HTL HRN HRT
  have HW1 := Lib.hid hW1; have HB0 := Lib.hid hb0; have HRD := Lib.hid hrd
  clear hW1 hb0 hrd
  have ead : w.heap.size + 1 + 1 = w.heap.size + 2 := rfl
  obtain ⟨n, hn⟩ : ∃ n, (if vlB wd hg g (a1, a2) (b1, b2) [hh] = true then ndI g wd (a1, a2) hh (b1, b2) else 0) = n := ⟨_, rfl⟩
  obtain ⟨t, ht⟩ : ∃ n, (if vlB wd hg g (a1, a2) (b1, b2) [hh] = true then ndI g wd (b1, b2) hh (a1, a2) else 0) = n := ⟨_, rfl⟩
  obtain ⟨le, hle⟩ : ∃ n, lnE wd hg g (a1, a2) (b1, b2) [hh] = n := ⟨_, rfl⟩
  rw [hn, hle] at HND HRN
  rw [ht, hle] at HTL HRT
  clear hn ht hle
  go_enter Try.func6, Try.ntmps6
  go_wp2_with fail
  rw [← HW1.out]
  refine (head_any W1).mono ?_
  rintro e w2 ⟨rfl, hb⟩
  have HD2 := Lib.hid hb
  have HB2 := Lib.hid (HB0.out.trans (hb.mono HB0.out.size))
  clear hb
  obtain ⟨q0, q1, q2, r0, r1, s0, s1⟩ := HRD.out w2 HD2.out
  go_wp2_with fail
  refine (HGR.out _ HB2.out).mono ?_
  rintro e w3 ⟨rfl, hb⟩
  have HD3 := Lib.hid (HD2.out.trans (hb.mono HD2.out.size))
  have HB3 := Lib.hid (HB2.out.trans (hb.mono HB2.out.size))
  clear hb q0 q1 q2 r0 r1 s0 s1
  cases decide (g.length ≤ 2600)
  · go_wp2_with fail
    go_ret
    exact ⟨rfl, HB3.out⟩
  obtain ⟨q0, q1, q2, r0, r1, s0, s1⟩ := HRD.out w3 HD3.out
  go_wp2_with fail
  refine (HND.out _ HB3.out).mono ?_
  rintro e w4 ⟨rfl, hb⟩
  have HD4 := Lib.hid (HD3.out.trans (hb.mono HD3.out.size))
  have HB4 := Lib.hid (HB3.out.trans (hb.mono HB3.out.size))
  clear hb q0 q1 q2 r0 r1 s0 s1
  obtain ⟨q0, q1, q2, r0, r1, s0, s1⟩ := HRD.out w4 HD4.out
  go_wp2_with fail
  refine (HRN.out _ HB4.out).mono ?_
  rintro e w5 ⟨rfl, hb⟩
  have HD5 := Lib.hid (HD4.out.trans (hb.mono HD4.out.size))
  have HB5 := Lib.hid (HB4.out.trans (hb.mono HB4.out.size))
  clear hb q0 q1 q2 r0 r1 s0 s1
  obtain ⟨q0, q1, q2, r0, r1, s0, s1⟩ := HRD.out w5 HD5.out
  go_wp2_with fail
  refine (HTL.out _ HB5.out).mono ?_
  rintro e w6 ⟨rfl, hb⟩
  have HD6 := Lib.hid (HD5.out.trans (hb.mono HD5.out.size))
  have HB6 := Lib.hid (HB5.out.trans (hb.mono HB5.out.size))
  clear hb q0 q1 q2 r0 r1 s0 s1
  obtain ⟨q0, q1, q2, r0, r1, s0, s1⟩ := HRD.out w6 HD6.out
  go_wp2_with fail
  refine (HRT.out _ HB6.out).mono ?_
  rintro e w7 ⟨rfl, hb⟩
  have HD7 := Lib.hid (HD6.out.trans (hb.mono HD6.out.size))
  have HB7 := Lib.hid (HB6.out.trans (hb.mono HB6.out.size))
  clear hb q0 q1 q2 r0 r1 s0 s1
  go_wp2_with fail
  go_ret
  exact ⟨rfl, HB7.out⟩
theorem needs_card (wd hg : Int) (o : Value) (g : List Int) (a1 a2 hh b1 b2 : Int) (w : World) (hv : INRow w o g) (hl : g.length ≤ 9223372036854775807) (_ : -9223372036854775808 ≤ hh ∧ hh ≤ 9223372036854775807) :
    Calls Try.prog 6 #[mpV wd hg o, .agg #[.int .i64 a1, .int .i64 a2], .int .i64 hh, .agg #[.int .i64 b1, .int .i64 b2]] w fun e w' => e = .returned (.bool true) ∧ Below w.heap.size w w' :=
  needs_law wd hg o g a1 a2 hh b1 b2 w hv hl
end Go.Proofs.Ytkipncjagiidoaa
