/- few and maps of the law. -/
import Derived.Test.YtjllkmekchmmbaaHL1
set_option linter.unusedVariables false
set_option linter.unusedSimpArgs false
namespace Go.Proofs.Ytjllkmekchmmbaa
open Go Go.RowKit

def fewB (n t h : Nat) : Bool := decide (n ≤ 60) && (decide (t ≤ 5) || decide (12 < t) && decide (t ≤ 20)) && (decide (h ≤ 8) || decide (60 < h) && decide (h ≤ 70))
set_option maxRecDepth 100000 in
set_option maxHeartbeats 2000000 in
theorem few_any (wd hg : Int) (o tv hv : Value) (g : List Int) (T : List Tw) (H : List Hz) (w : World) (ho : INRow w o g) (ht : TwRow w tv T) (hh : HzRow w hv H) :
    Calls Try.prog 11 #[coV wd hg o tv hv] w fun e w' => e = .returned (.bool (fewB g.length T.length H.length)) ∧ Below w.heap.size w w' := by
  obtain ⟨oa, ocap, rfl, _⟩ := ho.form
  obtain ⟨at0, tcap, rfl, _⟩ := ht.form
  obtain ⟨ah, hcap, rfl, _⟩ := hh.form
  obtain ⟨n, hn⟩ : ∃ n, g.length = n := ⟨_, rfl⟩
  obtain ⟨t, htn⟩ : ∃ n, T.length = n := ⟨_, rfl⟩
  obtain ⟨h, hhn⟩ : ∃ n, H.length = n := ⟨_, rfl⟩
  rw [hn, htn, hhn]
  clear ho ht hh hn htn hhn
  have HB0 := Lib.hid ((Below.refl _ w).alloc (Nat.le_refl w.heap.size) (.cells #[.int .i64 wd, .int .i64 hg, .slice oa n ocap, .slice at0 t tcap, .slice ah h hcap] 28))
  unfold coV
  by_cases c0 : n ≤ 60
  case neg =>
    have x : ¬ (n : Int) ≤ 60 := by omega
    have xd : decide ((n : Int) ≤ 60) = false := decide_eq_false x
    have HN : Hid (fewB n t h = false) := Lib.hid (by unfold fewB; simp only [Bool.and_eq_true, Bool.or_eq_true, decide_eq_true_eq, Bool.eq_false_iff, ne_eq]; omega)
    rw [HN.out]
    go_enter Try.func11, Try.ntmps11
    go_wp2_with fail
    go_ret
    exact ⟨rfl, HB0.out⟩
  have x : (n : Int) ≤ 60 := by omega
  have ct : (t ≤ 5) ∨ (5 < t ∧ t ≤ 12) ∨ (12 < t ∧ t ≤ 20) ∨ (20 < t) := by omega
  have ch : (h ≤ 8) ∨ (8 < h ∧ h ≤ 60) ∨ (60 < h ∧ h ≤ 70) ∨ (70 < h) := by omega
  rcases ct with ct | ct | ct | ct
  · rcases ch with ch | ch | ch | ch
    · have y0 : (t : Int) ≤ 5 := by omega
      have z0 : (h : Int) ≤ 8 := by omega
      have HN : Hid (fewB n t h = true) := Lib.hid (by unfold fewB; simp only [Bool.and_eq_true, Bool.or_eq_true, decide_eq_true_eq, Bool.eq_false_iff, ne_eq]; omega)
      rw [HN.out]
      go_enter Try.func11, Try.ntmps11
      go_wp2_with fail
      go_ret
      exact ⟨rfl, HB0.out⟩
    · have y0 : (t : Int) ≤ 5 := by omega
      have z0 : ¬ (h : Int) ≤ 8 := by omega
      have z0d : decide ((h : Int) ≤ 8) = false := decide_eq_false z0
      have z1 : ¬ (60 : Int) < h := by omega
      have z1d : decide ((60 : Int) < h) = false := decide_eq_false z1
      have HN : Hid (fewB n t h = false) := Lib.hid (by unfold fewB; simp only [Bool.and_eq_true, Bool.or_eq_true, decide_eq_true_eq, Bool.eq_false_iff, ne_eq]; omega)
      rw [HN.out]
      go_enter Try.func11, Try.ntmps11
      go_wp2_with fail
      go_ret
      exact ⟨rfl, HB0.out⟩
    · have y0 : (t : Int) ≤ 5 := by omega
      have z0 : ¬ (h : Int) ≤ 8 := by omega
      have z0d : decide ((h : Int) ≤ 8) = false := decide_eq_false z0
      have z1 : (60 : Int) < h := by omega
      have z2 : (h : Int) ≤ 70 := by omega
      have HN : Hid (fewB n t h = true) := Lib.hid (by unfold fewB; simp only [Bool.and_eq_true, Bool.or_eq_true, decide_eq_true_eq, Bool.eq_false_iff, ne_eq]; omega)
      rw [HN.out]
      go_enter Try.func11, Try.ntmps11
      go_wp2_with fail
      go_ret
      exact ⟨rfl, HB0.out⟩
    · have y0 : (t : Int) ≤ 5 := by omega
      have z0 : ¬ (h : Int) ≤ 8 := by omega
      have z0d : decide ((h : Int) ≤ 8) = false := decide_eq_false z0
      have z1 : (60 : Int) < h := by omega
      have z2 : ¬ (h : Int) ≤ 70 := by omega
      have z2d : decide ((h : Int) ≤ 70) = false := decide_eq_false z2
      have HN : Hid (fewB n t h = false) := Lib.hid (by unfold fewB; simp only [Bool.and_eq_true, Bool.or_eq_true, decide_eq_true_eq, Bool.eq_false_iff, ne_eq]; omega)
      rw [HN.out]
      go_enter Try.func11, Try.ntmps11
      go_wp2_with fail
      go_ret
      exact ⟨rfl, HB0.out⟩
  · have y0 : ¬ (t : Int) ≤ 5 := by omega
    have y0d : decide ((t : Int) ≤ 5) = false := decide_eq_false y0
    have y1 : ¬ (12 : Int) < t := by omega
    have y1d : decide ((12 : Int) < t) = false := decide_eq_false y1
    have HN : Hid (fewB n t h = false) := Lib.hid (by unfold fewB; simp only [Bool.and_eq_true, Bool.or_eq_true, decide_eq_true_eq, Bool.eq_false_iff, ne_eq]; omega)
    rw [HN.out]
    go_enter Try.func11, Try.ntmps11
    go_wp2_with fail
    go_ret
    exact ⟨rfl, HB0.out⟩
  · rcases ch with ch | ch | ch | ch
    · have y0 : ¬ (t : Int) ≤ 5 := by omega
      have y0d : decide ((t : Int) ≤ 5) = false := decide_eq_false y0
      have y1 : (12 : Int) < t := by omega
      have y2 : (t : Int) ≤ 20 := by omega
      have z0 : (h : Int) ≤ 8 := by omega
      have HN : Hid (fewB n t h = true) := Lib.hid (by unfold fewB; simp only [Bool.and_eq_true, Bool.or_eq_true, decide_eq_true_eq, Bool.eq_false_iff, ne_eq]; omega)
      rw [HN.out]
      go_enter Try.func11, Try.ntmps11
      go_wp2_with fail
      go_ret
      exact ⟨rfl, HB0.out⟩
    · have y0 : ¬ (t : Int) ≤ 5 := by omega
      have y0d : decide ((t : Int) ≤ 5) = false := decide_eq_false y0
      have y1 : (12 : Int) < t := by omega
      have y2 : (t : Int) ≤ 20 := by omega
      have z0 : ¬ (h : Int) ≤ 8 := by omega
      have z0d : decide ((h : Int) ≤ 8) = false := decide_eq_false z0
      have z1 : ¬ (60 : Int) < h := by omega
      have z1d : decide ((60 : Int) < h) = false := decide_eq_false z1
      have HN : Hid (fewB n t h = false) := Lib.hid (by unfold fewB; simp only [Bool.and_eq_true, Bool.or_eq_true, decide_eq_true_eq, Bool.eq_false_iff, ne_eq]; omega)
      rw [HN.out]
      go_enter Try.func11, Try.ntmps11
      go_wp2_with fail
      go_ret
      exact ⟨rfl, HB0.out⟩
    · have y0 : ¬ (t : Int) ≤ 5 := by omega
      have y0d : decide ((t : Int) ≤ 5) = false := decide_eq_false y0
      have y1 : (12 : Int) < t := by omega
      have y2 : (t : Int) ≤ 20 := by omega
      have z0 : ¬ (h : Int) ≤ 8 := by omega
      have z0d : decide ((h : Int) ≤ 8) = false := decide_eq_false z0
      have z1 : (60 : Int) < h := by omega
      have z2 : (h : Int) ≤ 70 := by omega
      have HN : Hid (fewB n t h = true) := Lib.hid (by unfold fewB; simp only [Bool.and_eq_true, Bool.or_eq_true, decide_eq_true_eq, Bool.eq_false_iff, ne_eq]; omega)
      rw [HN.out]
      go_enter Try.func11, Try.ntmps11
      go_wp2_with fail
      go_ret
      exact ⟨rfl, HB0.out⟩
    · have y0 : ¬ (t : Int) ≤ 5 := by omega
      have y0d : decide ((t : Int) ≤ 5) = false := decide_eq_false y0
      have y1 : (12 : Int) < t := by omega
      have y2 : (t : Int) ≤ 20 := by omega
      have z0 : ¬ (h : Int) ≤ 8 := by omega
      have z0d : decide ((h : Int) ≤ 8) = false := decide_eq_false z0
      have z1 : (60 : Int) < h := by omega
      have z2 : ¬ (h : Int) ≤ 70 := by omega
      have z2d : decide ((h : Int) ≤ 70) = false := decide_eq_false z2
      have HN : Hid (fewB n t h = false) := Lib.hid (by unfold fewB; simp only [Bool.and_eq_true, Bool.or_eq_true, decide_eq_true_eq, Bool.eq_false_iff, ne_eq]; omega)
      rw [HN.out]
      go_enter Try.func11, Try.ntmps11
      go_wp2_with fail
      go_ret
      exact ⟨rfl, HB0.out⟩
  · have y0 : ¬ (t : Int) ≤ 5 := by omega
    have y0d : decide ((t : Int) ≤ 5) = false := decide_eq_false y0
    have y1 : (12 : Int) < t := by omega
    have y2 : ¬ (t : Int) ≤ 20 := by omega
    have y2d : decide ((t : Int) ≤ 20) = false := decide_eq_false y2
    have HN : Hid (fewB n t h = false) := Lib.hid (by unfold fewB; simp only [Bool.and_eq_true, Bool.or_eq_true, decide_eq_true_eq, Bool.eq_false_iff, ne_eq]; omega)
    rw [HN.out]
    go_enter Try.func11, Try.ntmps11
    go_wp2_with fail
    go_ret
    exact ⟨rfl, HB0.out⟩
set_option maxRecDepth 100000 in
set_option maxHeartbeats 2000000 in
/-- Two maps that read alike are equal. -/
theorem maps_same (wd hg : Int) (o1 o2 : Value) (g : List Int) (w : World) (h1 : INRow w o1 g) (h2 : INRow w o2 g) (hl : g.length ≤ 1000000) :
    Calls Try.prog 16 #[mpV wd hg o1, mpV wd hg o2] w fun e w' => e = .returned (.bool true) ∧ Below w.heap.size w w' := by
  obtain ⟨oa, ocap, rfl, hc1⟩ := h1.form
  obtain ⟨pa, pcap, rfl, hc2⟩ := h2.form
  have HC1 := Lib.hid hc1
  have HC2 := Lib.hid hc2
  clear hc1 hc2 h1 h2
  unfold mpV
  have HB0 := Lib.hid (((Below.refl _ w).alloc (Nat.le_refl w.heap.size) (.cells #[.int .i64 wd, .int .i64 hg, .slice oa g.length ocap] 24)).alloc (by simp) (.cells #[.int .i64 wd, .int .i64 hg, .slice pa g.length pcap] 24))
  have HG0 := Lib.hid ((gNe (w.alloc (.cells #[.int .i64 wd, .int .i64 hg, .slice oa g.length ocap] 24)) (.cells #[.int .i64 wd, .int .i64 hg, .slice pa g.length pcap] 24) w.heap.size (by simp)).trans (heap_alloc_new _ _))
  have HG1 : Hid (((w.alloc (.cells #[.int .i64 wd, .int .i64 hg, .slice oa g.length ocap] 24)).alloc (.cells #[.int .i64 wd, .int .i64 hg, .slice pa g.length pcap] 24)).heap[w.heap.size + 1]? = some (.cells #[.int .i64 wd, .int .i64 hg, .slice pa g.length pcap] 24 (0, 0))) := Lib.hid (gAt _ _ _ (by simp))
  obtain ⟨W1, hW1⟩ : ∃ W1, (w.alloc (.cells #[.int .i64 wd, .int .i64 hg, .slice oa g.length ocap] 24)).alloc (.cells #[.int .i64 wd, .int .i64 hg, .slice pa g.length pcap] 24) = W1 := ⟨_, rfl⟩
  rw [hW1] at HB0 HG0 HG1
  have HRD : Hid (∀ W', Below W1.heap.size W1 W' → W'.cell? ⟨w.heap.size, 0, none⟩ = some (.int .i64 wd) ∧ W'.cell? ⟨w.heap.size, 1, none⟩ = some (.int .i64 hg) ∧ W'.cell? ⟨w.heap.size, 2, none⟩ = some (.slice oa g.length ocap) ∧ W'.cell? ⟨w.heap.size + 1, 0, none⟩ = some (.int .i64 wd) ∧ W'.cell? ⟨w.heap.size + 1, 1, none⟩ = some (.int .i64 hg) ∧ W'.cell? ⟨w.heap.size + 1, 2, none⟩ = some (.slice pa g.length pcap)) := Lib.hid (fun W' h => by
    have m0 := (h.block _ (Array.getElem?_eq_some_iff.1 HG0.out).1).trans HG0.out
    have m1 := (h.block _ (Array.getElem?_eq_some_iff.1 HG1.out).1).trans HG1.out
    exact ⟨cellH m0 0, cellH m0 1, cellH m0 2, cellH m1 0, cellH m1 1, cellH m1 2⟩)
  have HW1 := Lib.hid hW1
  clear hW1
  go_enter Try.func16, Try.ntmps16
  go_wp2_with fail
  rw [HW1.out]
  obtain ⟨q0, q1, q2, q3, q4, q5⟩ := HRD.out W1 (Below.refl _ _)
  go_wp2_with fail
  clear q0 q1 q2 q3 q4 q5
  go_loopw [5] (fun i wr => ∃ (k : Nat), k ≤ g.length ∧ i = .int .i64 k ∧ Hid (Below W1.heap.size W1 wr)) (fun i _ => g.length - (intOf i).toNat)
  case atStart => exact ⟨0, Nat.zero_le _, rfl, Lib.hid (Below.refl _ _)⟩
  case round =>
    obtain ⟨k, hk, rfl, hB⟩ := hrel
    have HBW := Lib.hid (HB0.out.trans (hB.out.mono HB0.out.size))
    obtain ⟨q0, q1, q2, q3, q4, q5⟩ := HRD.out wr hB.out
    by_cases hkl : k < g.length
    · obtain ⟨b, off, rfl, hb, c0⟩ := HC1.out k hkl
      obtain ⟨b', off', rfl, hb', c1⟩ := HC2.out k hkl
      have hki : (k : Int) < g.length := by omega
      have hk0 : (0 : Int) ≤ k := by omega
      have e0 := (HBW.out.cell (p := ⟨b, _, none⟩) hb).trans c0
      have e1 := (HBW.out.cell (p := ⟨b', _, none⟩) hb').trans c1
      obtain ⟨x, hx⟩ : ∃ x, g.getD k 0 = x := ⟨_, rfl⟩
      rw [hx] at e0 e1
      clear hx c0 c1 hb hb'
      go_wp2_with fail
      go_quiet (fail)
      go_wp2_with fail
      go_roundw
      case rel => exact ⟨k + 1, by omega, by go_num, Lib.hid (below_drewN hB.out _)⟩
      case measure => simp [intOf]; omega
    · obtain rfl : k = g.length := by omega
      go_wp2_with fail
      go_ret
      exact ⟨rfl, HBW.out⟩
end Go.Proofs.Ytjllkmekchmmbaa
