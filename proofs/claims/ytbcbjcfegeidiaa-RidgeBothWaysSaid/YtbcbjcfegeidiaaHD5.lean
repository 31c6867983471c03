/- RidgeBothWays: a line of sight is one from both ends, with taller masts, over lower ground. -/
import Derived.Test.YtbcbjcfegeidiaaHC3
import Derived.Test.YtbcbjcfegeidiaaHD4
import Derived.Test.YtbcbjcfegeidiaaHT1
set_option linter.unusedVariables false
set_option linter.unusedSimpArgs false
namespace Go.Proofs.Ytbcbjcfegeidiaa
open Go Go.RowKit

theorem vlB_two (wd hg : Int) (g : List Int) (a b : Pl) (up rise : Int) : vlB wd hg g a b [up, rise] = vlB wd hg g b a [rise, up] := by
  unfold vlB tallB
  simp only [List.all_cons, List.all_nil, Bool.and_true]
  cases vmB wd hg g <;> cases onB wd hg a <;> cases onB wd hg b <;> simp [Bool.and_comm]
theorem clB_two (wd hg : Int) (g : List Int) (a b : Pl) (up rise : Int) : clB wd hg g a up b rise = clB wd hg g b rise a up := by
  unfold clB; rw [vlB_two, freeB_symm]
theorem lnE_two (wd hg : Int) (g : List Int) (a b : Pl) (up rise : Int) : lnE wd hg g a b [up, rise] = lnE wd hg g b a [rise, up] := by
  unfold lnE; rw [vlB_two]
theorem cl_ok {wd hg : Int} {g : List Int} {a b : Pl} {up rise : Int} (h : clB wd hg g a up b rise = true) : vlB wd hg g a b [up, rise] = true ∧ freeB g wd a up b rise = true := by
  unfold clB at h; simpa using h
theorem vl_more {wd hg : Int} {g : List Int} {a b : Pl} {up rise c d : Int} (h : vlB wd hg g a b [up, rise] = true) (hc : 0 ≤ c ∧ c ≤ 200) (hd : 0 ≤ d ∧ d ≤ 200) : vlB wd hg g a b [c, d] = true := by
  unfold vlB tallB at h ⊢
  simp only [List.all_cons, List.all_nil, Bool.and_true, Bool.and_eq_true] at h ⊢
  unfold wiB
  simp only [Bool.and_eq_true, decide_eq_true_eq]
  exact ⟨h.1, hc, hd⟩
theorem four_cells (w : World) (A B C D : Array Value) (t u v s : TypeId) {W : World} (hb : Below ((((w.alloc (.cells A t)).alloc (.cells B u)).alloc (.cells C v)).alloc (.cells D s)).heap.size ((((w.alloc (.cells A t)).alloc (.cells B u)).alloc (.cells C v)).alloc (.cells D s)) W) :
    W.heap[w.heap.size]? = some (.cells A t (0, 0)) ∧ W.heap[w.heap.size + 1]? = some (.cells B u (0, 0)) ∧ W.heap[w.heap.size + 2]? = some (.cells C v (0, 0)) ∧ W.heap[w.heap.size + 3]? = some (.cells D s (0, 0)) ∧ w.heap.size + 3 < W.heap.size ∧ Below w.heap.size w W := by
  have s1 : (w.alloc (.cells A t)).heap.size = w.heap.size + 1 := by simp
  have s2 : ((w.alloc (.cells A t)).alloc (.cells B u)).heap.size = w.heap.size + 2 := by simp
  have s3 : (((w.alloc (.cells A t)).alloc (.cells B u)).alloc (.cells C v)).heap.size = w.heap.size + 3 := by simp
  have s4 : ((((w.alloc (.cells A t)).alloc (.cells B u)).alloc (.cells C v)).alloc (.cells D s)).heap.size = w.heap.size + 4 := by simp
  refine ⟨?_, ?_, ?_, ?_, ?_, ?_⟩
  · rw [hb.block _ (by omega), gNe _ _ _ (by omega), gNe _ _ _ (by omega), gNe _ _ _ (by omega)]; exact heap_alloc_new _ _
  · rw [hb.block _ (by omega), gNe _ _ _ (by omega), gNe _ _ _ (by omega), ← s1]; exact heap_alloc_new _ _
  · rw [hb.block _ (by omega), gNe _ _ _ (by omega), ← s2]; exact heap_alloc_new _ _
  · rw [hb.block _ (by omega), ← s3]; exact heap_alloc_new _ _
  · have := hb.size; omega
  · exact (((((Below.refl _ w).alloc (Nat.le_refl _) _).alloc (by omega) _).alloc (by omega) _).alloc (by omega) _).trans (hb.mono (by omega))
theorem vm_set {wd hg : Int} {g : List Int} {k : Nat} {v : Int} (h : vmB wd hg g = true) (hv : 0 ≤ v ∧ v ≤ 4000) : vmB wd hg (g.set k v) = true := by
  unfold vmB at h ⊢
  simp only [Bool.and_eq_true, List.all_eq_true, List.length_set] at h ⊢
  refine ⟨h.1, fun n hn => ?_⟩
  rcases List.mem_or_eq_of_mem_set hn with h2 | rfl
  · exact h.2 n h2
  · unfold wiB; simp only [Bool.and_eq_true, decide_eq_true_eq]; exact hv
set_option maxRecDepth 100000 in
set_option maxHeartbeats 8000000 in
theorem bothways_law (wd hg : Int) (o : Value) (g : List Int) (a1 a2 up b1 b2 rise xn p1 p2 z : Int) (w : World) (hv : INRow w o g) (hl : g.length ≤ 9223372036854775807) (hx : 0 ≤ xn ∧ xn ≤ 255) (hz : 0 ≤ z ∧ z ≤ 65535) :
    Calls Try.prog 9 #[mpV wd hg o, .agg #[.int .i64 a1, .int .i64 a2], .int .i64 up, .agg #[.int .i64 b1, .int .i64 b2], .int .i64 rise, .int .u8 xn, .agg #[.int .i64 p1, .int .i64 p2], .int .u16 z] w fun e w' => e = .returned (.bool true) ∧ Below w.heap.size w w' := by
  have HCL := Lib.hid (fun (a b : Pl) (u r : Int) w' (h : Below w.heap.size w w') => Clear_any wd hg o g a b u r w' (hv.keep h) hl)
  have HGR := Lib.hid (fun w' (h : Below w.heap.size w w') => lground_any wd hg o g w' (hv.keep h) hl)
  have HGD := Lib.hid (fun w' (h : Below w.heap.size w w') => Ground_any wd hg o g (p1, p2) w' (hv.keep h) hl)
  have HRA := Lib.hid (fun v w' (h : Below w.heap.size w w') => Raise_any wd hg o g (p1, p2) v w' (hv.keep h) hl)
  unfold mpV plV at HCL HGD
  unfold mpV at HGR
  unfold mpV
  have HA := Lib.hid (fun W' => four_cells w #[.int .i64 wd, .int .i64 hg, o] #[.int .i64 a1, .int .i64 a2] #[.int .i64 b1, .int .i64 b2] #[.int .i64 p1, .int .i64 p2] 24 30 30 30 (W := W'))
  have HB0 := Lib.hid (((((Below.refl _ w).alloc (Nat.le_refl w.heap.size) (.cells #[.int .i64 wd, .int .i64 hg, o] 24)).alloc (by simp) (.cells #[.int .i64 a1, .int .i64 a2] 30)).alloc (by simp; omega) (.cells #[.int .i64 b1, .int .i64 b2] 30)).alloc (by simp; omega) (.cells #[.int .i64 p1, .int .i64 p2] 30))
  obtain ⟨W1, hW1⟩ : ∃ W1, (((w.alloc (.cells #[.int .i64 wd, .int .i64 hg, o] 24)).alloc (.cells #[.int .i64 a1, .int .i64 a2] 30)).alloc (.cells #[.int .i64 b1, .int .i64 b2] 30)).alloc (.cells #[.int .i64 p1, .int .i64 p2] 30) = W1 := ⟨_, rfl⟩
  rw [hW1] at HA HB0
  have HW1 := Lib.hid hW1
  have ead : w.heap.size + 1 + 1 = w.heap.size + 2 := rfl
  have ead2 : w.heap.size + 2 + 1 = w.heap.size + 3 := rfl
  have HRD : Hid (∀ W', Below W1.heap.size W1 W' → W'.cell? ⟨w.heap.size, 0, none⟩ = some (.int .i64 wd) ∧ W'.cell? ⟨w.heap.size, 1, none⟩ = some (.int .i64 hg) ∧ W'.cell? ⟨w.heap.size, 2, none⟩ = some o ∧ W'.cell? ⟨w.heap.size + 1, 0, none⟩ = some (.int .i64 a1) ∧ W'.cell? ⟨w.heap.size + 1, 1, none⟩ = some (.int .i64 a2) ∧
      W'.cell? ⟨w.heap.size + 2, 0, none⟩ = some (.int .i64 b1) ∧ W'.cell? ⟨w.heap.size + 2, 1, none⟩ = some (.int .i64 b2) ∧ W'.cell? ⟨w.heap.size + 3, 0, none⟩ = some (.int .i64 p1) ∧ W'.cell? ⟨w.heap.size + 3, 1, none⟩ = some (.int .i64 p2) ∧ w.heap.size + 3 < W'.heap.size) := Lib.hid (fun W' h => by
    obtain ⟨m0, m1, m2, m3, hs, _⟩ := HA.out W' h
    exact ⟨cellH m0 0, cellH m0 1, cellH m0 2, cellH m1 0, cellH m1 1, cellH m2 0, cellH m2 1, cellH m3 0, cellH m3 1, hs⟩)
  clear hW1
  go_enter Try.func9, Try.ntmps9
  go_wp2_with fail
  rw [HW1.out]
  refine (head_any W1).mono ?_
  rintro e w2 ⟨rfl, hb⟩
  have HD2 := Lib.hid hb
  have HB2 := Lib.hid (HB0.out.trans (hb.mono HB0.out.size))
  clear hb
  obtain ⟨q0, q1, q2, r0, r1, s0, s1, t0, t1, _⟩ := HRD.out w2 HD2.out
  go_wp2_with fail
  refine (HGR.out _ HB2.out).mono ?_
  rintro e w3 ⟨rfl, hb⟩
  have HD3 := Lib.hid (HD2.out.trans (hb.mono HD2.out.size))
  have HB3 := Lib.hid (HB2.out.trans (hb.mono HB2.out.size))
  clear hb q0 q1 q2 r0 r1 s0 s1 t0 t1
  cases decide (g.length ≤ 2600)
  · go_wp2_with fail
    go_ret
    exact ⟨rfl, HB3.out⟩
  obtain ⟨q0, q1, q2, r0, r1, s0, s1, t0, t1, _⟩ := HRD.out w3 HD3.out
  go_wp2_with fail
  refine (HCL.out (a1, a2) (b1, b2) up rise _ HB3.out).mono ?_
  rintro e w4 ⟨rfl, hb⟩
  have HD4 := Lib.hid (HD3.out.trans (hb.mono HD3.out.size))
  have HB4 := Lib.hid (HB3.out.trans (hb.mono HB3.out.size))
  clear hb q0 q1 q2 r0 r1 s0 s1 t0 t1
  obtain ⟨q0, q1, q2, r0, r1, s0, s1, t0, t1, _⟩ := HRD.out w4 HD4.out
  go_wp2_with fail
  refine (HCL.out (b1, b2) (a1, a2) rise up _ HB4.out).mono ?_
  rintro e w5 ⟨rfl, hb⟩
  rw [← clB_two, ← lnE_two]
  have HD5 := Lib.hid (HD4.out.trans (hb.mono HD4.out.size))
  have HB5 := Lib.hid (HB4.out.trans (hb.mono HB4.out.size))
  clear hb q0 q1 q2 r0 r1 s0 s1 t0 t1
  have HLN : Hid (lnE wd hg g (a1, a2) (b1, b2) [up, rise] = if vlB wd hg g (a1, a2) (b1, b2) [up, rise] = true then 0 else 1) := Lib.hid rfl
  obtain ⟨cb, hcb⟩ : ∃ x, clB wd hg g (a1, a2) up (b1, b2) rise = x := ⟨_, rfl⟩
  have HCB := Lib.hid hcb
  obtain ⟨le, hle⟩ : ∃ x, lnE wd hg g (a1, a2) (b1, b2) [up, rise] = x := ⟨_, rfl⟩
  rw [hle] at HLN ⊢
  rw [hcb]
  clear hcb hle
  cases cb
  · by_cases hz0 : le = 0
    · subst hz0
      go_wp2_with fail
      go_ret
      exact ⟨rfl, HB5.out⟩
    · have g0 : (le != 0) = true := by simpa using hz0
      clear hz0
      go_wp2_with fail
      go_ret
      exact ⟨rfl, HB5.out⟩
  obtain ⟨hvl, hfr⟩ := cl_ok HCB.out
  have HVL := Lib.hid hvl
  have HFR := Lib.hid hfr
  have hle0 : le = 0 := by rw [HLN.out, if_pos hvl]
  subst hle0
  obtain ⟨f1, f2, f3, f4⟩ := vlB_ok hvl
  have hu := f4 up (by simp)
  have hr := f4 rise (by simp)
  have HOA := Lib.hid f2
  have HOB := Lib.hid f3
  have HVM := Lib.hid f1
  clear hvl hfr f1 f2 f3 f4
  obtain ⟨q0, q1, q2, r0, r1, s0, s1, t0, t1, _⟩ := HRD.out w5 HD5.out
  go_wp2_with fail
  have hE1 : clB wd hg g (a1, a2) (min 200 (up + xn % 16)) (b1, b2) (min 200 (rise + xn / 16)) = true := by
    unfold clB
    rw [vl_more HVL.out (by omega) (by omega), freeB_more HFR.out (by omega) (by omega)]; rfl
  have hE2 : lnE wd hg g (a1, a2) (b1, b2) [min 200 (up + xn % 16), min 200 (rise + xn / 16)] = 0 := by
    unfold lnE
    rw [vl_more HVL.out (by omega) (by omega), if_pos rfl]
  refine (HCL.out (a1, a2) (b1, b2) _ _ _ HB5.out).mono ?_
  rintro e w6 ⟨rfl, hb⟩
  rw [hE1, hE2]
  have HD6 := Lib.hid (HD5.out.trans (hb.mono HD5.out.size))
  have HB6 := Lib.hid (HB5.out.trans (hb.mono HB5.out.size))
  clear hb q0 q1 q2 r0 r1 s0 s1 t0 t1 hE1 hE2
  have HG : Hid (grO wd hg g (p1, p2) = if vmB wd hg g = true ∧ onB wd hg (p1, p2) = true then .tuple #[.int .i64 (hAt g wd (p1, p2)), .int .i64 0] else .tuple #[.int .i64 0, .int .i64 1]) := Lib.hid rfl
  obtain ⟨q0, q1, q2, r0, r1, s0, s1, t0, t1, _⟩ := HRD.out w6 HD6.out
  cases hop : onB wd hg (p1, p2)
  · rw [if_neg (by rw [hop]; simp)] at HG
    rw [HG.out] at HGD
    clear hop
    go_wp2_with fail
    refine (HGD.out _ HB6.out).mono ?_
    rintro e w7 ⟨rfl, hb⟩
    have HB7 := Lib.hid (HB6.out.trans (hb.mono HB6.out.size))
    clear hb q0 q1 q2 r0 r1 s0 s1 t0 t1
    go_wp2_with fail
    go_ret
    exact ⟨rfl, HB7.out⟩
  rw [if_pos ⟨HVM.out, hop⟩] at HG
  rw [HG.out] at HGD
  obtain ⟨hp, hhp⟩ : ∃ x, hAt g wd (p1, p2) = x := ⟨_, rfl⟩
  have HHP := Lib.hid hhp
  rw [hhp] at HGD
  have HOP := Lib.hid hop
  have hpb := hAt_bd HVM.out hop
  rw [hhp] at hpb
  clear hop hhp HG
  go_wp2_with fail
  refine (HGD.out _ HB6.out).mono ?_
  rintro e w7 ⟨rfl, hb⟩
  have HD7 := Lib.hid (HD6.out.trans (hb.mono HD6.out.size))
  have HB7 := Lib.hid (HB6.out.trans (hb.mono HB6.out.size))
  clear hb q0 q1 q2 r0 r1 s0 s1 t0 t1
  obtain ⟨q0, q1, q2, r0, r1, s0, s1, t0, t1, _⟩ := HRD.out w7 HD7.out
  -- the law ends here where the place is an end of the line; else the ground is lowered
  have hend : ∀ (p1 p2 a1 a2 : Int), ((p1 == a1) = true ∧ (p2 == a2) = true) ∨ (p1 == a1) = false ∨ ((p1 == a1) = true ∧ (p2 == a2) = false) := fun p1 p2 a1 a2 => by
    cases (p1 == a1) <;> cases (p2 == a2) <;> simp
  have HLOW : Hid (((p1 == a1) = false ∨ (p2 == a2) = false) → ((p1 == b1) = false ∨ (p2 == b2) = false) → vlB wd hg (g.set (ixN wd (p1, p2)) (max 0 (hp - z))) (a1, a2) (b1, b2) [up, rise] = true ∧ freeB (g.set (ixN wd (p1, p2)) (max 0 (hp - z))) wd (a1, a2) up (b1, b2) rise = true) := Lib.hid (fun h1 h2 => by
    have hne1 : (a1, a2) ≠ (p1, p2) := fun e => by cases e; simp at h1
    have hne2 : (b1, b2) ≠ (p1, p2) := fun e => by cases e; simp at h2
    obtain ⟨_, i1, i2, _⟩ := on_idx HVM.out HOP.out
    have hix : ixN wd (p1, p2) < g.length := by unfold ixN; omega
    have hs := fun q => hAt_set g wd (p1, p2) q (max 0 (hp - z)) hix
    have hpe : hAt g wd (p1, p2) = hp := HHP.out
    refine ⟨?_, freeB_low HFR.out (fun q => ?_) ?_ ?_⟩
    · have h0 := HVL.out
      unfold vlB at h0 ⊢
      rw [vm_set HVM.out (by omega)]
      rw [HVM.out] at h0
      exact h0
    · rw [hs q]
      by_cases e : ixN wd q = ixN wd (p1, p2)
      · rw [if_pos e]
        have : hAt g wd q = hp := by rw [← hpe]; unfold hAt; unfold ixN at e; rw [e]
        omega
      · rw [if_neg e]; exact Int.le_refl _
    · rw [hs, if_neg (fun e => hne1 (ix_inj HOA.out HOP.out e))]
    · rw [hs, if_neg (fun e => hne2 (ix_inj HOB.out HOP.out e))])
  have HRB : Hid (raB wd hg g (p1, p2) (max 0 (hp - z)) = true) := Lib.hid (by
    unfold raB wiB
    rw [HVM.out, HOP.out]
    simp only [Bool.true_and, Bool.and_eq_true, decide_eq_true_eq]
    omega)
  unfold mpV plV at HRA
  rcases hend p1 p2 a1 a2 with ⟨h1, h2⟩ | hA
  · clear hend
    go_wp2_with fail
    go_ret
    exact ⟨rfl, HB7.out⟩
  rcases hend p1 p2 b1 b2 with ⟨h3, h4⟩ | hB
  · clear hend
    rcases hA with h1 | ⟨h1, h2⟩
    all_goals
      go_wp2_with fail
      go_ret
      exact ⟨rfl, HB7.out⟩
  have HLW := Lib.hid (HLOW.out (by rcases hA with h | ⟨_, h⟩ <;> simp [h]) (by rcases hB with h | ⟨_, h⟩ <;> simp [h]))
  clear hend HLOW
  rcases hA with h1 | ⟨h1, h2⟩ <;> rcases hB with h3 | ⟨h3, h4⟩
  all_goals
    go_wp2_with fail
    refine (HRA.out _ _ HB7.out).mono ?_
    rintro e w8 ⟨hb, _, hra⟩
    obtain ⟨o', rfl, hrow⟩ := hra HRB.out
    obtain ⟨oa, oc, rfl, _⟩ := hrow.form
    rw [List.length_set] at hrow ⊢
    unfold mpV
    have HD8 := Lib.hid (HD7.out.trans (hb.mono HD7.out.size))
    have HB8 := Lib.hid (HB7.out.trans (hb.mono HB7.out.size))
    clear hb q0 q1 q2 r0 r1 s0 s1 t0 t1 hra
    obtain ⟨q0, q1, q2, r0, r1, s0, s1, t0, t1, hsz⟩ := HRD.out w8 HD8.out
    have n1 : w.heap.size + 1 ≠ w8.heap.size := by omega
    have n2 : w.heap.size + 2 ≠ w8.heap.size := by omega
    have l1 : w.heap.size + 1 < w8.heap.size := by omega
    have l2 : w.heap.size + 2 < w8.heap.size := by omega
    have hY := (Below.refl _ w8).alloc (Nat.le_refl _) (.cells #[.int .i64 wd, .int .i64 hg, .slice oa g.length oc] 24)
    have HC := Lib.hid (Clear_any wd hg _ _ (a1, a2) (b1, b2) up rise _ (hrow.keep hY) (by rw [List.length_set]; exact hl))
    have HBY := Lib.hid (HB8.out.trans (hY.mono HB8.out.size))
    have hE1 : clB wd hg (g.set (ixN wd (p1, p2)) (max 0 (hp - z))) (a1, a2) up (b1, b2) rise = true := by unfold clB; rw [HLW.out.1, HLW.out.2]; rfl
    have hE2 : lnE wd hg (g.set (ixN wd (p1, p2)) (max 0 (hp - z))) (a1, a2) (b1, b2) [up, rise] = 0 := by unfold lnE; rw [if_pos HLW.out.1]
    rw [hE1, hE2] at HC
    unfold mpV plV at HC
    clear hY hrow hE1 hE2 q0 q1 q2 t0 t1
    go_wp2_with fail
    refine HC.out.mono ?_
    rintro e w9 ⟨rfl, hb⟩
    have HB9 := Lib.hid (HBY.out.trans (hb.mono HBY.out.size))
    clear hb r0 r1 s0 s1
    go_wp2_with fail
    go_ret
    exact ⟨rfl, HB9.out⟩
theorem bothways_card (wd hg : Int) (o : Value) (g : List Int) (a1 a2 up b1 b2 rise xn p1 p2 z : Int) (w : World) (hv : INRow w o g) (hl : g.length ≤ 9223372036854775807) (_ : -9223372036854775808 ≤ up ∧ up ≤ 9223372036854775807) (_ : -9223372036854775808 ≤ rise ∧ rise ≤ 9223372036854775807) (hx : 0 ≤ xn ∧ xn ≤ 255) (hz : 0 ≤ z ∧ z ≤ 65535) :
    Calls Try.prog 9 #[mpV wd hg o, .agg #[.int .i64 a1, .int .i64 a2], .int .i64 up, .agg #[.int .i64 b1, .int .i64 b2], .int .i64 rise, .int .u8 xn, .agg #[.int .i64 p1, .int .i64 p2], .int .u16 z] w fun e w' => e = .returned (.bool true) ∧ Below w.heap.size w w' :=
  bothways_law wd hg o g a1 a2 up b1 b2 rise xn p1 p2 z w hv hl hx hz
end Go.Proofs.Ytbcbjcfegeidiaa
