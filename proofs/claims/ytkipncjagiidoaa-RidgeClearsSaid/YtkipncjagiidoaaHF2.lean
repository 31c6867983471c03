/- The reference's Clear, Block and CheckBlock. -/
import Derived.Test.YtkipncjagiidoaaHF1
set_option linter.unusedVariables false
set_option linter.unusedSimpArgs false
namespace Go.Proofs.Ytkipncjagiidoaa
open Go Go.RowKit

theorem four_readsB (w : World) (wd hg : Int) (o : Value) (a b : Pl) : ∃ W1, W1 = (((w.alloc (.cells #[.int .i64 wd, .int .i64 hg, o] 24)).alloc (.cells #[.int .i64 a.1, .int .i64 a.2] 30)).alloc (.cells #[.int .i64 b.1, .int .i64 b.2] 30)).alloc (.cells #[.int .i64 0, .int .i64 0, .bool false, .int .i64 0] 61) ∧ Below w.heap.size w W1 ∧ W1.heap.size = w.heap.size + 4 ∧
    ∀ W', Below W1.heap.size W1 W' → W'.cell? ⟨w.heap.size, 0, none⟩ = some (.int .i64 wd) ∧ W'.cell? ⟨w.heap.size, 1, none⟩ = some (.int .i64 hg) ∧ W'.cell? ⟨w.heap.size, 2, none⟩ = some o ∧ W'.cell? ⟨w.heap.size + 1, 0, none⟩ = some (.int .i64 a.1) ∧ W'.cell? ⟨w.heap.size + 1, 1, none⟩ = some (.int .i64 a.2) ∧
      W'.cell? ⟨w.heap.size + 2, 0, none⟩ = some (.int .i64 b.1) ∧ W'.cell? ⟨w.heap.size + 2, 1, none⟩ = some (.int .i64 b.2) ∧ W'.heap[w.heap.size + 3]? = some (.cells #[.int .i64 0, .int .i64 0, .bool false, .int .i64 0] 61 (0, 0)) := by
  refine ⟨_, rfl, (((((Below.refl _ w).alloc (Nat.le_refl _) _).alloc (by simp) _).alloc (by simp; omega) _).alloc (by simp; omega) _), by simp, fun W' h => ?_⟩
  have hb : ∀ (j : Nat) (O : Option Obj), j < w.heap.size + 4 → ((((w.alloc (.cells #[.int .i64 wd, .int .i64 hg, o] 24)).alloc (.cells #[.int .i64 a.1, .int .i64 a.2] 30)).alloc (.cells #[.int .i64 b.1, .int .i64 b.2] 30)).alloc (.cells #[.int .i64 0, .int .i64 0, .bool false, .int .i64 0] 61)).heap[j]? = O → W'.heap[j]? = O := fun j O hj e => (h.block j (by simp; omega)).trans e
  have m0 : W'.heap[w.heap.size]? = some (.cells #[.int .i64 wd, .int .i64 hg, o] 24 (0, 0)) := hb _ _ (by omega) (by
    repeat first
      | exact gAt _ _ _ (by first | omega | (simp only [World.size_alloc]; done) | (simp only [World.size_alloc]; omega))
      | rw [gNe _ _ _ (by first | omega | (simp only [World.size_alloc]; omega))])
  have m1 : W'.heap[w.heap.size + 1]? = some (.cells #[.int .i64 a.1, .int .i64 a.2] 30 (0, 0)) := hb _ _ (by omega) (by
    repeat first
      | exact gAt _ _ _ (by first | omega | (simp only [World.size_alloc]; done) | (simp only [World.size_alloc]; omega))
      | rw [gNe _ _ _ (by first | omega | (simp only [World.size_alloc]; omega))])
  have m2 : W'.heap[w.heap.size + 2]? = some (.cells #[.int .i64 b.1, .int .i64 b.2] 30 (0, 0)) := hb _ _ (by omega) (by
    repeat first
      | exact gAt _ _ _ (by first | omega | (simp only [World.size_alloc]; done) | (simp only [World.size_alloc]; omega))
      | rw [gNe _ _ _ (by first | omega | (simp only [World.size_alloc]; omega))])
  have m3 : W'.heap[w.heap.size + 3]? = some (.cells #[.int .i64 0, .int .i64 0, .bool false, .int .i64 0] 61 (0, 0)) := hb _ _ (by omega) (by
    repeat first
      | exact gAt _ _ _ (by first | omega | (simp only [World.size_alloc]; done) | (simp only [World.size_alloc]; omega))
      | rw [gNe _ _ _ (by first | omega | (simp only [World.size_alloc]; omega))])
  exact ⟨cellH m0 0, cellH m0 1, cellH m0 2, cellH m1 0, cellH m1 1, cellH m2 0, cellH m2 1, m3⟩
theorem four_readsC (w : World) (x y : Int) (wd hg : Int) (o : Value) (a b : Pl) : ∃ W1, W1 = (((w.alloc (.cells #[.int .i64 wd, .int .i64 hg, o] 24)).alloc (.cells #[.int .i64 a.1, .int .i64 a.2] 30)).alloc (.cells #[.int .i64 b.1, .int .i64 b.2] 30)).alloc (.cells #[.int .i64 x, .int .i64 y] 50) ∧ Below w.heap.size w W1 ∧ W1.heap.size = w.heap.size + 4 ∧
    ∀ W', Below W1.heap.size W1 W' → W'.cell? ⟨w.heap.size, 0, none⟩ = some (.int .i64 wd) ∧ W'.cell? ⟨w.heap.size, 1, none⟩ = some (.int .i64 hg) ∧ W'.cell? ⟨w.heap.size, 2, none⟩ = some o ∧ W'.cell? ⟨w.heap.size + 1, 0, none⟩ = some (.int .i64 a.1) ∧ W'.cell? ⟨w.heap.size + 1, 1, none⟩ = some (.int .i64 a.2) ∧
      W'.cell? ⟨w.heap.size + 2, 0, none⟩ = some (.int .i64 b.1) ∧ W'.cell? ⟨w.heap.size + 2, 1, none⟩ = some (.int .i64 b.2) ∧ W'.heap[w.heap.size + 3]? = some (.cells #[.int .i64 x, .int .i64 y] 50 (0, 0)) := by
  refine ⟨_, rfl, (((((Below.refl _ w).alloc (Nat.le_refl _) _).alloc (by simp) _).alloc (by simp; omega) _).alloc (by simp; omega) _), by simp, fun W' h => ?_⟩
  have hb : ∀ (j : Nat) (O : Option Obj), j < w.heap.size + 4 → ((((w.alloc (.cells #[.int .i64 wd, .int .i64 hg, o] 24)).alloc (.cells #[.int .i64 a.1, .int .i64 a.2] 30)).alloc (.cells #[.int .i64 b.1, .int .i64 b.2] 30)).alloc (.cells #[.int .i64 x, .int .i64 y] 50)).heap[j]? = O → W'.heap[j]? = O := fun j O hj e => (h.block j (by simp; omega)).trans e
  have m0 : W'.heap[w.heap.size]? = some (.cells #[.int .i64 wd, .int .i64 hg, o] 24 (0, 0)) := hb _ _ (by omega) (by
    repeat first
      | exact gAt _ _ _ (by first | omega | (simp only [World.size_alloc]; done) | (simp only [World.size_alloc]; omega))
      | rw [gNe _ _ _ (by first | omega | (simp only [World.size_alloc]; omega))])
  have m1 : W'.heap[w.heap.size + 1]? = some (.cells #[.int .i64 a.1, .int .i64 a.2] 30 (0, 0)) := hb _ _ (by omega) (by
    repeat first
      | exact gAt _ _ _ (by first | omega | (simp only [World.size_alloc]; done) | (simp only [World.size_alloc]; omega))
      | rw [gNe _ _ _ (by first | omega | (simp only [World.size_alloc]; omega))])
  have m2 : W'.heap[w.heap.size + 2]? = some (.cells #[.int .i64 b.1, .int .i64 b.2] 30 (0, 0)) := hb _ _ (by omega) (by
    repeat first
      | exact gAt _ _ _ (by first | omega | (simp only [World.size_alloc]; done) | (simp only [World.size_alloc]; omega))
      | rw [gNe _ _ _ (by first | omega | (simp only [World.size_alloc]; omega))])
  have m3 : W'.heap[w.heap.size + 3]? = some (.cells #[.int .i64 x, .int .i64 y] 50 (0, 0)) := hb _ _ (by omega) (by
    repeat first
      | exact gAt _ _ _ (by first | omega | (simp only [World.size_alloc]; done) | (simp only [World.size_alloc]; omega))
      | rw [gNe _ _ _ (by first | omega | (simp only [World.size_alloc]; omega))])
  exact ⟨cellH m0 0, cellH m0 1, cellH m0 2, cellH m1 0, cellH m1 1, cellH m2 0, cellH m2 1, m3⟩
theorem info_bk : (Try.prog.info? 61).map (·.size) = some 4 := by kernel_rfl
theorem vl_pair {wd hg : Int} {g : List Int} {a b : Pl} {u r : Int} (h : vlB wd hg g a b [u, r] = true) : vmB wd hg g = true ∧ onB wd hg a = true ∧ onB wd hg b = true ∧ (0 ≤ u ∧ u ≤ 200) ∧ 0 ≤ r ∧ r ≤ 200 := by
  obtain ⟨h1, h2, h3, h4⟩ := vlB_ok h
  exact ⟨h1, h2, h3, h4 u (by simp), h4 r (by simp)⟩
set_option maxRecDepth 100000 in
set_option maxHeartbeats 4000000 in
theorem rClear_any (wd hg : Int) (o : Value) (g : List Int) (a b : Pl) (up rise : Int) (w : World) (hv : INRow w o g) (hl : g.length ≤ 9223372036854775807) :
    Calls Try.prog 28 #[mpV wd hg o, plV a, .int .i64 up, plV b, .int .i64 rise] w fun e w' => e = .returned (.tuple #[.bool (clB wd hg g a up b rise), .int .i64 (lnE wd hg g a b [up, rise])]) ∧ Below w.heap.size w w' := by
  have HS := Lib.hid (fun w' (h : Below w.heap.size w w') => rsight_any wd hg o g a b up rise w' (hv.keep h) hl)
  have HFI := Lib.hid (fun (hq : vlB wd hg g a b [up, rise] = true) w' (h : Below w.heap.size w w') => rfirst_any wd hg o g a b up rise w' (hv.keep h) (vl_pair hq).1 (vl_pair hq).2.1 (vl_pair hq).2.2.1 (vl_pair hq).2.2.2.1 (vl_pair hq).2.2.2.2)
  obtain ⟨W1, hW1, hb0, hs1, hrd⟩ := three_reads w wd hg o a b
  have HW1 := Lib.hid hW1; have HB0 := Lib.hid hb0; have HRD := Lib.hid hrd
  clear hW1 hb0 hrd hv
  have ead : w.heap.size + 1 + 1 = w.heap.size + 2 := rfl
  unfold mpV plV at HS HFI
  unfold mpV plV
  cases q1 : vlB wd hg g a b [up, rise]
  · have HN : Hid (lnE wd hg g a b [up, rise] = 1) := Lib.hid (by unfold lnE; rw [q1]; rfl)
    have HC : Hid (clB wd hg g a up b rise = false) := Lib.hid (by unfold clB; rw [q1]; rfl)
    rw [HN.out] at HS
    rw [HN.out, HC.out]
    clear q1 HFI
    go_enter Try.func28, Try.ntmps28
    go_wp2_with fail
    rw [← HW1.out]
    obtain ⟨p0, p1, p2, p3, p4, p5, p6⟩ := HRD.out W1 (Below.refl _ _)
    go_wp2_with fail
    refine (HS.out _ HB0.out).mono ?_
    rintro e w2 ⟨rfl, hb2⟩
    have HB2 := Lib.hid (HB0.out.trans (hb2.mono HB0.out.size))
    clear hb2 p0 p1 p2 p3 p4 p5 p6
    go_wp2_with fail
    go_ret2
    exact ⟨rfl, HB2.out⟩
  have HN : Hid (lnE wd hg g a b [up, rise] = 0) := Lib.hid (by unfold lnE; rw [q1]; rfl)
  have HC : Hid (clB wd hg g a up b rise = (blk g wd a b (hAt g wd a + up) (hAt g wd b + rise)).isEmpty) := Lib.hid (by unfold clB freeB; rw [q1]; rfl)
  have HFI := Lib.hid (HFI.out q1)
  rw [HN.out] at HS
  rw [HN.out, HC.out]
  clear q1
  cases hbl : blk g wd a b (hAt g wd a + up) (hAt g wd b + rise) with
  | nil =>
    rw [hbl] at HFI
    simp only [List.head?_nil] at HFI
    clear hbl
    go_enter Try.func28, Try.ntmps28
    go_wp2_with fail
    rw [← HW1.out]
    obtain ⟨p0, p1, p2, p3, p4, p5, p6⟩ := HRD.out W1 (Below.refl _ _)
    go_wp2_with fail
    refine (HS.out _ HB0.out).mono ?_
    rintro e w2 ⟨rfl, hb2⟩
    have HD2 := Lib.hid hb2
    have HB2 := Lib.hid (HB0.out.trans (hb2.mono HB0.out.size))
    clear hb2 p0 p1 p2 p3 p4 p5 p6
    obtain ⟨p0, p1, p2, p3, p4, p5, p6⟩ := HRD.out w2 HD2.out
    go_wp2_with fail
    refine (HFI.out _ HB2.out).mono ?_
    rintro e w3 ⟨rfl, hb3⟩
    have HB3 := Lib.hid (HB2.out.trans ((hb3.alloc hb3.size (.cells #[.int .i64 0, .int .i64 0] 50)).mono HB2.out.size))
    clear hb3 p0 p1 p2 p3 p4 p5 p6
    go_wp2_with fail
    go_ret2
    exact ⟨rfl, HB3.out⟩
  | cons c t =>
    rw [hbl] at HFI
    simp only [List.head?_cons] at HFI
    clear hbl
    go_enter Try.func28, Try.ntmps28
    go_wp2_with fail
    rw [← HW1.out]
    obtain ⟨p0, p1, p2, p3, p4, p5, p6⟩ := HRD.out W1 (Below.refl _ _)
    go_wp2_with fail
    refine (HS.out _ HB0.out).mono ?_
    rintro e w2 ⟨rfl, hb2⟩
    have HD2 := Lib.hid hb2
    have HB2 := Lib.hid (HB0.out.trans (hb2.mono HB0.out.size))
    clear hb2 p0 p1 p2 p3 p4 p5 p6
    obtain ⟨p0, p1, p2, p3, p4, p5, p6⟩ := HRD.out w2 HD2.out
    go_wp2_with fail
    refine (HFI.out _ HB2.out).mono ?_
    rintro e w3 ⟨rfl, hb3⟩
    have HB3 := Lib.hid (HB2.out.trans ((hb3.alloc hb3.size (.cells #[.int .i64 c.1, .int .i64 c.2] 50)).mono HB2.out.size))
    clear hb3 p0 p1 p2 p3 p4 p5 p6
    go_wp2_with fail
    go_ret2
    exact ⟨rfl, HB3.out⟩
end Go.Proofs.Ytkipncjagiidoaa
