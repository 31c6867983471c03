/- Best of package ridge where something is wrong. -/
import Derived.Test.YtjllkmekchmmbaaHP5
set_option linter.unusedVariables false
set_option linter.unusedSimpArgs false
namespace Go.Proofs.Ytjllkmekchmmbaa
open Go Go.RowKit

set_option maxRecDepth 100000 in
set_option maxHeartbeats 8000000 in
theorem Best_bad (wd hg : Int) (o tv hv : Value) (g : List Int) (T : List Tw) (H : List Hz) (height rise tick : Int) (w : World) (ho : INRow w o g) (hl : g.length ≤ 9223372036854775807) (ht : TwRow w tv T) (htl : T.length ≤ 9223372036854775807) (hh : HzRow w hv H) (hhl : H.length ≤ 9223372036854775807) (hE : beE wd hg g T H height rise tick ≠ 0) :
    Calls Try.prog 28 #[coV wd hg o tv hv, .int .i64 height, .int .i64 rise, .int .i64 tick] w fun e w' => e = .returned (.tuple #[.agg #[.int .i64 0, .int .i64 0], .int .i64 0, .int .i64 (beE wd hg g T H height rise tick)]) ∧ Below w.heap.size w w' := by
  have HCV := Lib.hid (fun w' (h : Below w.heap.size w w') => checkView_any wd hg o tv hv g T H rise tick w' (ho.keep h) hl (ht.keep h) htl (hh.keep h) hhl)
  have HVT := Lib.hid (validTall_any height)
  obtain ⟨oa, oc, rfl, _⟩ := ho.form
  obtain ⟨W1, hW1, hb0, hs1, hrd⟩ := co_reads w wd hg (.slice oa g.length oc) tv hv
  have HW1 := Lib.hid hW1; have HB0 := Lib.hid hb0; have HRD := Lib.hid hrd
  have hY1 := (Below.refl _ W1).alloc (Nat.le_refl _) (.cells #[.int .i64 0, .int .i64 0] 30)
  have hs9 : W1.heap.size = w.heap.size + 1 := by rw [hW1]; simp
  have HRE : Hid (∀ W', Below (W1.alloc (.cells #[.int .i64 0, .int .i64 0] 30)).heap.size (W1.alloc (.cells #[.int .i64 0, .int .i64 0] 30)) W' → W'.heap[w.heap.size + 1]? = some (.cells #[.int .i64 0, .int .i64 0] 30 (0, 0))) := Lib.hid (fun W' h => (h.block (w.heap.size + 1) (by simp; omega)).trans (gAt W1 _ _ hs9.symm))
  have HRD2 := Lib.hid (fun W' (h : Below (W1.alloc (.cells #[.int .i64 0, .int .i64 0] 30)).heap.size (W1.alloc (.cells #[.int .i64 0, .int .i64 0] 30)) W') => hrd W' (hY1.trans (h.mono hY1.size)))
  have HB1 := Lib.hid (hb0.trans (hY1.mono hb0.size))
  clear hY1 hs1 hb0 hrd HB0 HRD hs9 hW1
  clear ho ht hh hl htl hhl
  unfold beE at hE ⊢
  obtain ⟨E, hEE⟩ : ∃ x, cvE wd hg g T H rise tick = x := ⟨_, rfl⟩
  rw [hEE] at HCV hE ⊢
  clear hEE
  unfold coV at HCV
  unfold coV
  by_cases hE0 : E = 0
  · subst hE0
    rw [if_pos rfl] at hE ⊢
    cases qh : wiB height 0 200
    · rw [qh] at HVT
      rw [if_neg (by decide)]
      clear qh hE
      go_enter Try.func28, Try.ntmps28
      go_wp2_with fail
      rw [← HW1.out]
      obtain ⟨q0, q1, q2, q3, q4⟩ := HRD2.out _ (Below.refl _ _)
      go_wp2_with fail
      refine (HCV.out _ HB1.out).mono ?_
      rintro e w2 ⟨rfl, hb2⟩
      have HD2 := Lib.hid hb2
      have HB2 := Lib.hid (HB1.out.trans (hb2.mono HB1.out.size))
      clear hb2 q0 q1 q2 q3 q4
      go_wp2_with fail
      refine (HVT.out _).mono ?_
      rintro e w3 ⟨rfl, rfl⟩
      have hr := HRE.out w3 HD2.out
      have HN := Lib.hid hr
      have x0 := cellH hr 0
      have x1 := cellH hr 1
      have xf := freeH hr
      simp at x0 x1
      go_wp2_with fail
      refine bodyPost_ret (be_results (a := .int .i64 0) (b := .int .i64 0) (c := .int .i64 0) (d := .int .i64 1) rfl rfl rfl (heap_same (heap_same HN.out 0 _) 1 _)) rfl ⟨rfl, (HB2.out.setCell (p := ⟨w.heap.size + 1, 0, none⟩) (by simp only; omega) _).setCell (p := ⟨w.heap.size + 1, 1, none⟩) (by simp only; omega) _⟩
    · rw [qh] at HVT
      rw [if_pos qh] at hE
      have hgl : ¬ g.length ≤ 200 := fun h => hE (if_pos h)
      rw [if_pos rfl, if_neg hgl]
      have hq200 : decide (200 < (g.length : Int)) = true := by simp; omega
      have hq3 : (200 : Int) < g.length := by omega
      clear qh hE
      go_enter Try.func28, Try.ntmps28
      go_wp2_with fail
      rw [← HW1.out]
      obtain ⟨q0, q1, q2, q3, q4⟩ := HRD2.out _ (Below.refl _ _)
      go_wp2_with fail
      refine (HCV.out _ HB1.out).mono ?_
      rintro e w2 ⟨rfl, hb2⟩
      have HD2 := Lib.hid hb2
      have HB2 := Lib.hid (HB1.out.trans (hb2.mono HB1.out.size))
      clear hb2 q0 q1 q2 q3 q4
      go_wp2_with fail
      refine (HVT.out _).mono ?_
      rintro e w3 ⟨rfl, rfl⟩
      obtain ⟨q0, q1, q2, q3, q4⟩ := HRD2.out _ HD2.out
      have hr := HRE.out w3 HD2.out
      have HN := Lib.hid hr
      have x0 := cellH hr 0
      have x1 := cellH hr 1
      have xf := freeH hr
      simp at x0 x1
      go_wp2_with fail
      refine bodyPost_ret (be_results (a := .int .i64 0) (b := .int .i64 0) (c := .int .i64 0) (d := .int .i64 2) rfl rfl rfl (heap_same (heap_same HN.out 0 _) 1 _)) rfl ⟨rfl, (HB2.out.setCell (p := ⟨w.heap.size + 1, 0, none⟩) (by simp only; omega) _).setCell (p := ⟨w.heap.size + 1, 1, none⟩) (by simp only; omega) _⟩
  · rw [if_neg hE0] at hE ⊢
    have qe : (E != 0) = true := by simpa using hE0
    go_enter Try.func28, Try.ntmps28
    go_wp2_with fail
    rw [← HW1.out]
    obtain ⟨q0, q1, q2, q3, q4⟩ := HRD2.out _ (Below.refl _ _)
    go_wp2_with fail
    refine (HCV.out _ HB1.out).mono ?_
    rintro e w2 ⟨rfl, hb2⟩
    have HD2 := Lib.hid hb2
    have HB2 := Lib.hid (HB1.out.trans (hb2.mono HB1.out.size))
    clear hb2 q0 q1 q2 q3 q4
    have hr := HRE.out w2 HD2.out
    have HN := Lib.hid hr
    have x0 := cellH hr 0
    have x1 := cellH hr 1
    have xf := freeH hr
    simp at x0 x1
    go_wp2_with fail
    refine bodyPost_ret (be_results (a := .int .i64 0) (b := .int .i64 0) (c := .int .i64 0) (d := .int .i64 E) rfl rfl rfl (heap_same (heap_same HN.out 0 _) 1 _)) rfl ⟨rfl, (HB2.out.setCell (p := ⟨w.heap.size + 1, 0, none⟩) (by simp only; omega) _).setCell (p := ⟨w.heap.size + 1, 1, none⟩) (by simp only; omega) _⟩
end Go.Proofs.Ytjllkmekchmmbaa
