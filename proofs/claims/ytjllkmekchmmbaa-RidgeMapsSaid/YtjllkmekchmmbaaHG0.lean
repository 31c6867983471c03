/- The reference's Ground. -/
import Derived.Test.YtjllkmekchmmbaaHE1
import Derived.Test.YtjllkmekchmmbaaHD2
set_option linter.unusedVariables false
set_option linter.unusedSimpArgs false
namespace Go.Proofs.Ytjllkmekchmmbaa
open Go Go.RowKit

theorem two_reads (w : World) (wd hg : Int) (o : Value) (p : Pl) : ∃ W1, W1 = (w.alloc (.cells #[.int .i64 wd, .int .i64 hg, o] 24)).alloc (.cells #[.int .i64 p.1, .int .i64 p.2] 30) ∧ Below w.heap.size w W1 ∧ W1.heap.size = w.heap.size + 2 ∧
    ∀ W', Below W1.heap.size W1 W' → W'.cell? ⟨w.heap.size, 0, none⟩ = some (.int .i64 wd) ∧ W'.cell? ⟨w.heap.size, 1, none⟩ = some (.int .i64 hg) ∧ W'.cell? ⟨w.heap.size, 2, none⟩ = some o ∧ W'.cell? ⟨w.heap.size + 1, 0, none⟩ = some (.int .i64 p.1) ∧ W'.cell? ⟨w.heap.size + 1, 1, none⟩ = some (.int .i64 p.2) := by
  refine ⟨_, rfl, ((Below.refl _ w).alloc (Nat.le_refl _) _).alloc (by simp) _, by simp, fun W' h => ?_⟩
  have m0 := (h.block w.heap.size (by simp; omega)).trans ((gNe _ _ _ (by simp)).trans (heap_alloc_new w (.cells #[.int .i64 wd, .int .i64 hg, o] 24)))
  have m1 := (h.block (w.heap.size + 1) (by simp)).trans (gAt _ _ _ (by simp))
  exact ⟨cellH m0 0, cellH m0 1, cellH m0 2, cellH m1 0, cellH m1 1⟩
theorem ln_one (wd hg : Int) (g : List Int) (p : Pl) : lnE wd hg g p p [] = if vmB wd hg g = true ∧ onB wd hg p = true then 0 else 1 := by
  unfold lnE vlB tallB
  cases vmB wd hg g <;> cases onB wd hg p <;> simp
set_option maxRecDepth 100000 in
set_option maxHeartbeats 2000000 in
theorem rGround_any (wd hg : Int) (o : Value) (g : List Int) (p : Pl) (w : World) (hv : INRow w o g) (hl : g.length ≤ 9223372036854775807) :
    Calls Try.prog 13 #[mpV wd hg o, plV p] w fun e w' => e = .returned (grO wd hg g p) ∧ Below w.heap.size w w' := by
  have HV := Lib.hid hv
  have HLN := Lib.hid (fun w' (h : Below w.heap.size w w') => by have h2 := rlined_any wd hg o g p p w' (hv.keep h) hl; rw [ln_one] at h2; exact h2)
  obtain ⟨W1, hW1, hb0, hs1, hrd⟩ := two_reads w wd hg o p
  have HW1 := Lib.hid hW1; have HB0 := Lib.hid hb0; have HRD := Lib.hid hrd
  clear hW1 hb0 hrd hv
  by_cases hq : vmB wd hg g = true ∧ onB wd hg p = true
  · rw [if_pos hq] at HLN
    have HG : Hid (grO wd hg g p = .tuple #[.int .i64 (hAt g wd p), .int .i64 0]) := Lib.hid (by unfold grO; rw [if_pos hq])
    rw [HG.out]
    obtain ⟨x1, x2, x3, x4⟩ := on_idx hq.1 hq.2
    have HCA := Lib.hid (fun w' (h : Below w.heap.size w w') => rat_any wd hg o g p w' (HV.out.keep h) (by omega) ⟨x2, x3⟩ (by omega))
    unfold mpV plV at HLN HCA
    unfold mpV plV
    obtain ⟨ha, hae⟩ : ∃ y, hAt g wd p = y := ⟨_, rfl⟩
    rw [hae] at HCA ⊢
    clear hq x1 x2 x3 x4 hae
    go_enter Try.func13, Try.ntmps13
    go_wp2_with fail
    rw [← HW1.out]
    refine (HLN.out _ HB0.out).mono ?_
    rintro e w2 ⟨rfl, hb2⟩
    have HD2 := Lib.hid hb2
    have HB2 := Lib.hid (HB0.out.trans (hb2.mono HB0.out.size))
    clear hb2
    obtain ⟨p0, p1, p2, p3, p4⟩ := HRD.out w2 HD2.out
    go_wp2_with fail
    refine (HCA.out _ HB2.out).mono ?_
    rintro e w3 ⟨rfl, hb3⟩
    have HB3 := Lib.hid (HB2.out.trans (hb3.mono HB2.out.size))
    clear hb3 p0 p1 p2 p3 p4
    go_wp2_with fail
    go_ret2
    exact ⟨rfl, HB3.out⟩
  · rw [if_neg hq] at HLN
    have HG : Hid (grO wd hg g p = .tuple #[.int .i64 0, .int .i64 1]) := Lib.hid (by unfold grO; rw [if_neg hq])
    rw [HG.out]
    unfold mpV plV at HLN
    unfold mpV plV
    clear hq
    go_enter Try.func13, Try.ntmps13
    go_wp2_with fail
    rw [← HW1.out]
    refine (HLN.out _ HB0.out).mono ?_
    rintro e w2 ⟨rfl, hb2⟩
    have HB2 := Lib.hid (HB0.out.trans (hb2.mono HB0.out.size))
    clear hb2
    go_wp2_with fail
    go_ret2
    exact ⟨rfl, HB2.out⟩
end Go.Proofs.Ytjllkmekchmmbaa
