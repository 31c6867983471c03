/- The reference's Raise. -/
import Derived.Test.YtjllkmekchmmbaaHG0
import Derived.Test.YtjllkmekchmmbaaHD4
import Derived.Test.YtjllkmekchmmbaaHJ0
set_option linter.unusedVariables false
set_option linter.unusedSimpArgs false
namespace Go.Proofs.Ytjllkmekchmmbaa
open Go Go.RowKit

set_option maxRecDepth 100000 in
set_option maxHeartbeats 8000000 in
theorem rRaise_any (wd hg : Int) (o : Value) (g : List Int) (p : Pl) (h : Int) (w : World) (hv : INRow w o g) (hl : g.length ≤ 9223372036854775807) :
    Calls Try.prog 15 #[mpV wd hg o, plV p, .int .i64 h] w fun e w' => RaOut wd hg g p h w e w' := by
  obtain ⟨x, y⟩ := p
  have HLN := Lib.hid (fun w' (h : Below w.heap.size w w') => by have h2 := rlined_any wd hg o g (x, y) (x, y) w' (hv.keep h) hl; rw [ln_one] at h2; exact h2)
  have HVV := Lib.hid hv
  have HVB : Hid (raB wd hg g (x, y) h = (vmB wd hg g && onB wd hg (x, y) && wiB h 0 4000)) := Lib.hid rfl
  unfold mpV plV at HLN
  unfold mpV plV
  simp only at HLN ⊢
  have HA := Lib.hid (fun W' => three_cells w #[.int .i64 wd, .int .i64 hg, o] #[.int .i64 x, .int .i64 y] #[.int .i64 0, .int .i64 0, .slice none 0 0] 24 30 24 (W := W'))
  have HB0 := Lib.hid ((((Below.refl _ w).alloc (Nat.le_refl w.heap.size) (.cells #[.int .i64 wd, .int .i64 hg, o] 24)).alloc (by simp) (.cells #[.int .i64 x, .int .i64 y] 30)).alloc (by simp; omega) (.cells #[.int .i64 0, .int .i64 0, .slice none 0 0] 24))
  obtain ⟨W1, hW1⟩ : ∃ W1, ((w.alloc (.cells #[.int .i64 wd, .int .i64 hg, o] 24)).alloc (.cells #[.int .i64 x, .int .i64 y] 30)).alloc (.cells #[.int .i64 0, .int .i64 0, .slice none 0 0] 24) = W1 := ⟨_, rfl⟩
  rw [hW1] at HA HB0
  have HS1 : Hid (W1.heap.size = w.heap.size + 3) := Lib.hid (by rw [← hW1]; simp)
  have HW1 := Lib.hid hW1
  have ead : w.heap.size + 1 + 1 = w.heap.size + 2 := rfl
  have HRD : Hid (∀ W', Below W1.heap.size W1 W' → W'.cell? ⟨w.heap.size, 0, none⟩ = some (.int .i64 wd) ∧ W'.cell? ⟨w.heap.size, 1, none⟩ = some (.int .i64 hg) ∧ W'.cell? ⟨w.heap.size, 2, none⟩ = some o ∧ W'.cell? ⟨w.heap.size + 1, 0, none⟩ = some (.int .i64 x) ∧ W'.cell? ⟨w.heap.size + 1, 1, none⟩ = some (.int .i64 y)) := Lib.hid (fun W' h => by
    obtain ⟨m0, m1, m2, _, _⟩ := HA.out W' h
    exact ⟨cellH m0 0, cellH m0 1, cellH m0 2, cellH m1 0, cellH m1 1⟩)
  clear hW1 hv
  have HFA : Hid (∀ W', Below W1.heap.size W1 W' → Hid (W'.cell? ⟨w.heap.size + 2, 0, none⟩ = some (.int .i64 0) ∧ W'.cell? ⟨w.heap.size + 2, 1, none⟩ = some (.int .i64 0) ∧ W'.cell? ⟨w.heap.size + 2, 2, none⟩ = some (.slice none 0 0) ∧ (∀ o, W'.frozen? ⟨w.heap.size + 2, o, none⟩ = false) ∧
      (((W'.setCell ⟨w.heap.size + 2, 0, none⟩ (.int .i64 0)).setCell ⟨w.heap.size + 2, 1, none⟩ (.int .i64 0)).setCell ⟨w.heap.size + 2, 2, none⟩ (.slice none 0 0)).heap[w.heap.size + 2]? = some (.cells #[.int .i64 0, .int .i64 0, .slice none 0 0] 24 (0, 0)) ∧
      Below w.heap.size w (((W'.setCell ⟨w.heap.size + 2, 0, none⟩ (.int .i64 0)).setCell ⟨w.heap.size + 2, 1, none⟩ (.int .i64 0)).setCell ⟨w.heap.size + 2, 2, none⟩ (.slice none 0 0)))) := Lib.hid (fun W' h => Lib.hid (by
    obtain ⟨_, _, m2, _, hb⟩ := HA.out W' h
    refine ⟨cellH m2 0, cellH m2 1, cellH m2 2, freeH m2, heap_same (heap_same (heap_same m2 0 _) 1 _) 2 _, ?_⟩
    exact ((hb.setCell (p := ⟨w.heap.size + 2, 0, none⟩) (by simp) _).setCell (p := ⟨w.heap.size + 2, 1, none⟩) (by simp) _).setCell (p := ⟨w.heap.size + 2, 2, none⟩) (by simp) _))
  by_cases q1 : vmB wd hg g = true ∧ onB wd hg (x, y) = true
  case neg =>
    rw [if_neg q1] at HLN
    have HN : Hid (raB wd hg g (x, y) h = false) := Lib.hid (by
      rw [HVB.out, Bool.eq_false_iff]
      intro e
      simp only [Bool.and_eq_true] at e
      exact q1 e.1)
    clear q1
    go_enter Try.func15, Try.ntmps15
    go_wp2_with fail
    rw [HW1.out]
    obtain ⟨p0, p1, p2, p3, p4⟩ := HRD.out W1 (Below.refl _ _)
    go_wp2_with fail
    refine (HLN.out _ HB0.out).mono ?_
    rintro e w2 ⟨rfl, hb2⟩
    have HF := HFA.out w2 hb2
    obtain ⟨r0, r1, r2, rf, hh, hb⟩ := HF.out
    have HH := Lib.hid hh
    have HB := Lib.hid hb
    clear hb2 p0 p1 p2 p3 p4 hh hb HF
    go_wp2_with fail
    refine bodyPost_ret (res_two Try.results15 _ _ (w.heap.size + 2) 24 #[.int .i64 0, .int .i64 0, .slice none 0 0] (0, 0) _ rfl HH.out Try.underlying24 rfl (by kernel_rfl)) rfl ?_
    exact ⟨HB.out, fun _ => rfl, fun k => (by rw [HN.out] at k; cases k)⟩
  rw [if_pos q1] at HLN
  have HQ1 := Lib.hid q1
  have HV2 : Hid (raB wd hg g (x, y) h = wiB h 0 4000) := Lib.hid (by rw [HVB.out, q1.1, q1.2]; rfl)
  by_cases h1 : h < 0
  · have HN : Hid (raB wd hg g (x, y) h = false) := Lib.hid (by rw [HV2.out]; unfold wiB; rw [decide_eq_false (by omega)]; rfl)
    clear q1
    go_enter Try.func15, Try.ntmps15
    go_wp2_with fail
    rw [HW1.out]
    obtain ⟨p0, p1, p2, p3, p4⟩ := HRD.out W1 (Below.refl _ _)
    go_wp2_with fail
    refine (HLN.out _ HB0.out).mono ?_
    rintro e w2 ⟨rfl, hb2⟩
    have HF := HFA.out w2 hb2
    obtain ⟨r0, r1, r2, rf, hh, hb⟩ := HF.out
    have HH := Lib.hid hh
    have HB := Lib.hid hb
    clear hb2 p0 p1 p2 p3 p4 hh hb HF
    go_wp2_with fail
    refine bodyPost_ret (res_two Try.results15 _ _ (w.heap.size + 2) 24 #[.int .i64 0, .int .i64 0, .slice none 0 0] (0, 0) _ rfl HH.out Try.underlying24 rfl (by kernel_rfl)) rfl ?_
    exact ⟨HB.out, fun _ => rfl, fun k => (by rw [HN.out] at k; cases k)⟩
  have g1 : decide (h < 0) = false := decide_eq_false h1
  by_cases h2 : 4000 < h
  · have HN : Hid (raB wd hg g (x, y) h = false) := Lib.hid (by rw [HV2.out]; unfold wiB; rw [decide_eq_false (p := h ≤ 4000) (by omega), Bool.and_false])
    clear q1 h1
    go_enter Try.func15, Try.ntmps15
    go_wp2_with fail
    rw [HW1.out]
    obtain ⟨p0, p1, p2, p3, p4⟩ := HRD.out W1 (Below.refl _ _)
    go_wp2_with fail
    refine (HLN.out _ HB0.out).mono ?_
    rintro e w2 ⟨rfl, hb2⟩
    have HF := HFA.out w2 hb2
    obtain ⟨r0, r1, r2, rf, hh, hb⟩ := HF.out
    have HH := Lib.hid hh
    have HB := Lib.hid hb
    clear hb2 p0 p1 p2 p3 p4 hh hb HF
    go_wp2_with fail
    refine bodyPost_ret (res_two Try.results15 _ _ (w.heap.size + 2) 24 #[.int .i64 0, .int .i64 0, .slice none 0 0] (0, 0) _ rfl HH.out Try.underlying24 rfl (by kernel_rfl)) rfl ?_
    exact ⟨HB.out, fun _ => rfl, fun k => (by rw [HN.out] at k; cases k)⟩
  have g2 : decide (4000 < h) = false := decide_eq_false h2
  have HN : Hid (raB wd hg g (x, y) h = true) := Lib.hid (by rw [HV2.out]; unfold wiB; rw [decide_eq_true (by omega), decide_eq_true (p := h ≤ 4000) (by omega)]; rfl)
  clear h1 h2
  obtain ⟨x1, x2, x3, x4⟩ := on_idx q1.1 q1.2
  simp only at x1 x2 x3 x4
  have hgl : 0 < g.length := by omega
  have hgm : g.length ≤ 2401 := x4
  obtain ⟨a0, oc, rfl, hcc⟩ := HVV.out.form
  obtain ⟨gb, go, rfl, hgb, _⟩ := hcc 0 hgl
  have HCC : Hid (∀ W', Below w.heap.size w W' → ∀ k, k < g.length → W'.cell? ⟨gb, go + k, none⟩ = some (.int .i64 (g.getD k 0))) := Lib.hid (fun W' hb k hk => by
    obtain ⟨b', o', e', hb', hc'⟩ := hcc k hk
    cases e'
    exact (hb.cell (p := ⟨gb, _, none⟩) hb').trans hc')
  obtain ⟨k, hk⟩ : ∃ k : Nat, y * wd + x = k := ⟨(y * wd + x).toNat, by omega⟩
  have hkl : k < g.length := by omega
  have HIX : Hid (ixN wd (x, y) = k) := Lib.hid (by unfold ixN; simp only; omega)
  have F1 : Hid (wrap64 (y * wd) = y * wd ∧ IntKind.i64.wrap (y * wd) = y * wd) := Lib.hid ⟨w64 (by omega), IntWalk.i64_in _ (by omega)⟩
  have F2 : Hid (wrap64 (y * wd + x) = k ∧ IntKind.i64.wrap (y * wd + x) = k) := Lib.hid (by rw [hk]; exact ⟨w64 (by omega), IntWalk.i64_in _ (by omega)⟩)
  clear q1 x1 x2 x3 x4 hcc hgb hk
  go_enter Try.func15, Try.ntmps15
  go_wp2_with fail
  rw [HW1.out]
  obtain ⟨p0, p1, p2, p3, p4⟩ := HRD.out W1 (Below.refl _ _)
  go_wp2_with fail
  refine (HLN.out _ HB0.out).mono ?_
  rintro e w2 ⟨rfl, hb2⟩
  have HD2 := Lib.hid hb2
  have HB2 := Lib.hid (HB0.out.trans (hb2.mono HB0.out.size))
  clear hb2 p0 p1 p2 p3 p4
  obtain ⟨p0, p1, p2, p3, p4⟩ := HRD.out w2 HD2.out
  go_wp2_with fail
  clear p0 p1 p2 p3 p4
  obtain ⟨i0, hi0, hz0, hz1, hz2⟩ := info_parts info_in
  have HQ : Hid (∀ W', Below w2.heap.size w2 W' → ∀ i u, (g.map (Value.int .i64 ·))[i]? = some u → W'.cell? ((⟨gb, go, none⟩ : Addr).add i) = some u) := Lib.hid (fun W' hb i u hi => by
    rw [addr_add]
    have hil : i < g.length := by have := (List.getElem?_eq_some_iff.1 hi).1; simpa using this
    rw [HCC.out W' (HB2.out.trans (hb.mono HB2.out.size)) i hil, ← hi]
    simp [List.getD_eq_getElem?_getD, hil])
  have HRD2 : Hid (∀ W', Below w2.heap.size w2 W' → W'.cell? ⟨w.heap.size, 0, none⟩ = some (.int .i64 wd) ∧ W'.cell? ⟨w.heap.size, 1, none⟩ = some (.int .i64 hg) ∧ W'.cell? ⟨w.heap.size, 2, none⟩ = some (.slice (some ⟨gb, go, none⟩) g.length oc)) := Lib.hid (fun W' hb => by
    obtain ⟨p0, p1, p2, _, _⟩ := HRD.out W' (HD2.out.trans (hb.mono HD2.out.size))
    exact ⟨p0, p1, p2⟩)
  rename_i Q K hK
  suffices key : ∀ (R : Nat) (ga : Option Addr) (gc : Nat) (x29 : Value) (WW : World), Hid (Below w2.heap.size w2 WW) → Hid (WW.heap[R]? = some (.cells #[.int .i64 wd, .int .i64 hg, .slice ga g.length gc] 24 (0, 0))) → Hid (w2.heap.size ≤ R) → Hid (WW.ownsRow w2.heap.size 3 1 (.slice ga g.length gc) g.length (g.map (Value.int .i64 ·))) → Exit.then K Q Exit.normal { tmps := #[.agg #[.int .i64 wd, .int .i64 hg, .slice (some ⟨gb, go, none⟩) g.length oc], .agg #[.int .i64 x, .int .i64 y], .int .i64 h, .pointer (some ⟨w.heap.size, 0, none⟩), .pointer (some ⟨w.heap.size + 1, 0, none⟩), undef, .pointer (some ⟨w.heap.size + 2, 0, none⟩), .int .i64 0, .int .i64 0, .pointer (some ⟨R, 0, none⟩), .agg #[.int .i64 wd, .int .i64 hg, .slice (some ⟨gb, go, none⟩) g.length oc], .agg #[.int .i64 x, .int .i64 y], .agg #[.int .i64 x, .int .i64 y], .int .i64 0, .int .i64 0, .bool false, undef, undef, .int .i64 h, .bool false, .bool false, .int .i64 h, .bool false, .bool false, undef, .pointer (some ⟨w.heap.size, 0, none⟩), .int .i64 wd, .pointer (some ⟨w.heap.size, 1, none⟩), .int .i64 hg, x29, .pointer (some ⟨w.heap.size, 2, none⟩), .slice (some ⟨gb, go, none⟩) g.length oc, .slice ga g.length gc, .agg #[.int .i64 wd, .int .i64 hg, .slice ga g.length gc], undef, undef, undef, undef, undef, undef, undef, undef, undef, undef, undef, undef, undef], defers := [] } WW by
    have hKD : (fun w' => Below w2.heap.size w2 w' ∧ w'.cell? ⟨w.heap.size, 0, none⟩ = some (.int .i64 wd) ∧ w'.cell? ⟨w.heap.size, 1, none⟩ = some (.int .i64 hg) ∧ w'.cell? ⟨w.heap.size, 2, none⟩ = some (.slice (some ⟨gb, go, none⟩) g.length oc)) w2.drew := ⟨(Below.refl _ w2).drew, HRD2.out _ (Below.refl _ w2).drew⟩
    have hKB : ∀ w', Below w2.heap.size w2 w' → (fun w' => Below w2.heap.size w2 w' ∧ w'.cell? ⟨w.heap.size, 0, none⟩ = some (.int .i64 wd) ∧ w'.cell? ⟨w.heap.size, 1, none⟩ = some (.int .i64 hg) ∧ w'.cell? ⟨w.heap.size, 2, none⟩ = some (.slice (some ⟨gb, go, none⟩) g.length oc)) w' := fun w' h => ⟨h, HRD2.out _ h⟩
    have HKD := Lib.hid hKD
    have HKB := Lib.hid hKB
    clear hKD hKB
    go_region_held_law (fun w' => Below w2.heap.size w2 w' ∧ w'.cell? ⟨w.heap.size, 0, none⟩ = some (.int .i64 wd) ∧ w'.cell? ⟨w.heap.size, 1, none⟩ = some (.int .i64 hg) ∧ w'.cell? ⟨w.heap.size, 2, none⟩ = some (.slice (some ⟨gb, go, none⟩) g.length oc)) (first
        | exact HKD.out
        | assumption
        | (refine HKB.out _ (Below.alloc (And.left (by assumption)) ?_ _); exact (And.left (by assumption : Below w2.heap.size w2 _ ∧ _)).size)
        | (refine HKB.out _ (Below.setCell (Below.setCell (Below.setCell HB6 ?_ _) ?_ _) ?_ _) <;> first | (simp; done) | (simp; omega) | exact Nat.le_refl _)
        | (trace_state; fail)) (first
      | (refine step_append_own rfl (.tmp 29) (.tmp 31) 22 rfl 3 i0 (.int .i64 0) 1 8 Try.underlying22 hi0 hz0 hz1 hz2 rfl (by decide) w2.heap.size _ 0 [] rfl (by first | exact made_a w2 _ _ | exact made_b w2 _ _ _ | exact made_c w2 _ _ _) ⟨gb, go, none⟩ g.length oc (g.map (Value.int .i64 ·)) rfl (by simp) (HQ.out _ (And.left (by assumption))) one_ints (by unfold maxLen; omega) (by omega) (by first | (simp; done) | (simp; omega)) ?_; intro v2 w6 HO2 HG2; rw [Nat.zero_add, List.nil_append] at HO2; obtain ⟨ga, gc, rfl⟩ := row_form HO2; have HB6 : Below w2.heap.size w2 w6 := Below.grown (And.left (by assumption)) HG2 (by first | (simp; done) | (simp; omega)) (fun k e => by cases e; first | (simp; done) | (simp; omega) | exact Nat.le_refl _); have hS6 := HKB.out w6 HB6; have hs6 := HB6.size; first
          | (have hN6 := nf_b HG2 rfl; have x0 := cellH hN6 0; have x1 := cellH hN6 1; have x2 := cellH hN6 2; have f0 := freeH hN6; simp at x0 x1 x2)
          | (have hN6 := nf_c HG2 rfl; have x0 := cellH hN6 0; have x1 := cellH hN6 1; have x2 := cellH hN6 2; have f0 := freeH hN6; simp at x0 x1 x2)
          | (trace_state; skip)))
    all_goals clear hK
    all_goals first
      | exact key w6.heap.size ga gc _ _ (Lib.hid (HB6.alloc hs6 _)) (Lib.hid (heap_alloc_new w6 _)) (Lib.hid hs6) (Lib.hid (HO2.alloc _))
      | exact key _ ga gc _ _ (Lib.hid (And.left (by assumption))) (Lib.hid (heap_same (heap_same (heap_same hN6 0 _) 1 _) 2 _)) (Lib.hid (by first | exact Nat.le_refl _ | omega)) (Lib.hid (row_set (row_set (row_set HO2 hN6 tMI 0 _) (heap_same hN6 0 _) tMI 1 _) (heap_same (heap_same hN6 0 _) 1 _) tMI 2 _))
      | (trace_state; fail)
  intro R ga gc x29 WW HWB HWN HWP HWR
  show K _ _
  apply hK
  clear hK
  obtain ⟨nb, rfl, hmw⟩ := MpW.of_own HWB.out HWP.out HWN.out HWR.out hgl
  have HMW := Lib.hid hmw
  have HDW := Lib.hid (HD2.out.trans (HWB.out.mono HD2.out.size))
  obtain ⟨p0, p1, p2, p3, p4⟩ := HRD.out WW HDW.out
  have m9 := hmw.2.2.2.2.1
  have s0 := hmw.at hkl
  have sf := hmw.free k
  have y0 := cellH m9 0
  have y1 := cellH m9 1
  have y2 := cellH m9 2
  simp at y0 y1 y2
  obtain ⟨_, _, m2, _, _⟩ := HA.out WW HDW.out
  have HM2 := Lib.hid m2
  have hset := hmw.set hkl h
  have hRs : w.heap.size + 3 ≤ R := by have h1 := HWP.out; have h2 := HD2.out.size; have h3 := HS1.out; omega
  have HRS := Lib.hid hRs
  have hkl' : (k : Int) < g.length := by omega
  have hk0 : (0 : Int) ≤ k := by omega
  have HSET := Lib.hid hset
  have HNB := Lib.hid hmw.2.2.1
  clear hmw m9 m2 hset hRs HWN HWR HWB HWP HMW
  obtain ⟨F11, F12⟩ := F1.out
  obtain ⟨F21, F22⟩ := F2.out
  obtain ⟨W6, hW6⟩ : ∃ X, WW.setCell ⟨nb, k, none⟩ (.int .i64 h) = X := ⟨_, rfl⟩
  have HW6 := Lib.hid hW6
  rw [hW6] at HSET
  have m9 := HSET.out.2.2.2.2.1
  have z0 := cellH m9 0
  have z1 := cellH m9 1
  have z2 := cellH m9 2
  simp at z0 z1 z2
  have HS : Hid (W6.heap[w.heap.size + 2]? = some (.cells #[.int .i64 0, .int .i64 0, .slice none 0 0] 24 (0, 0)) ∧ nb ≠ w.heap.size + 2 ∧ Below w.heap.size w W6) := Lib.hid (by
    have h1 := HNB.out
    have h2 := HD2.out.size
    have h3 := HS1.out
    refine ⟨?_, by omega, ?_⟩
    · rw [← hW6]; exact (heap_other _ _ _ _ _ (by omega)).trans HM2.out
    · exact HB2.out.trans (HSET.out.1.mono HB2.out.size))
  have v0 := cellH HS.out.1 0
  have v1 := cellH HS.out.1 1
  have v2 := cellH HS.out.1 2
  have vf := freeH HS.out.1
  simp at v0 v1 v2
  have HH := Lib.hid (heap_same (heap_same (heap_same HS.out.1 0 (.int .i64 wd)) 1 (.int .i64 hg)) 2 (.slice (some ⟨nb, 0, none⟩) g.length gc))
  have HBF := Lib.hid (((HS.out.2.2.setCell (p := ⟨w.heap.size + 2, 0, none⟩) (by simp) (.int .i64 wd)).setCell (p := ⟨w.heap.size + 2, 1, none⟩) (by simp) (.int .i64 hg)).setCell (p := ⟨w.heap.size + 2, 2, none⟩) (by simp) (.slice (some ⟨nb, 0, none⟩) g.length gc))
  have HROW : Hid (INRow (((W6.setCell ⟨w.heap.size + 2, 0, none⟩ (.int .i64 wd)).setCell ⟨w.heap.size + 2, 1, none⟩ (.int .i64 hg)).setCell ⟨w.heap.size + 2, 2, none⟩ (.slice (some ⟨nb, 0, none⟩) g.length gc)) (.slice (some ⟨nb, 0, none⟩) g.length gc) (g.set k h)) := Lib.hid (by
    obtain ⟨z1, z2, z3, z4, z5, z6, cur, z7, z8⟩ := HSET.out
    have hn := HS.out.2.1
    have hc := (heap_other _ _ 2 (.slice (some ⟨nb, 0, none⟩) g.length gc) _ hn).trans ((heap_other _ _ 1 (.int .i64 hg) _ hn).trans ((heap_other W6 _ 0 (.int .i64 wd) _ hn).trans z7))
    refine .inr ⟨nb, 0, gc, by rw [z6], (Array.getElem?_eq_some_iff.1 hc).1, fun i hi => ?_⟩
    have hi2 : i < g.length := by omega
    have h9 := HSET.out.at hi2
    rw [cellH z7] at h9
    rw [Nat.zero_add, cellH hc]; exact h9)
  clear m9
  go_wp2_with fail
  refine bodyPost_ret (res_two Try.results15 _ _ (w.heap.size + 2) 24 #[.int .i64 wd, .int .i64 hg, .slice (some ⟨nb, 0, none⟩) g.length gc] (0, 0) _ rfl HH.out Try.underlying24 rfl (by kernel_rfl)) rfl ?_
  exact ⟨HBF.out, fun k => (by rw [HN.out] at k; cases k), fun _ => ⟨_, rfl, by rw [HIX.out]; exact HROW.out⟩⟩
end Go.Proofs.Ytjllkmekchmmbaa
