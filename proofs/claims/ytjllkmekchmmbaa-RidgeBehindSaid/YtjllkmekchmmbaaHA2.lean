/- indexOf, heightAt, axes, part and validLine of package ridge. -/
import Derived.Test.YtjllkmekchmmbaaHA1
set_option linter.unusedVariables false
set_option linter.unusedSimpArgs false
namespace Go.Proofs.Ytjllkmekchmmbaa
open Go Go.RowKit

set_option maxRecDepth 100000 in
theorem indexOf_any (wd hg : Int) (o : Value) (p : Pl) (w : World) (h1 : -9223372036854775808 ≤ p.2 * wd ∧ p.2 * wd ≤ 9223372036854775807) (h2 : -9223372036854775808 ≤ p.2 * wd + p.1 ∧ p.2 * wd + p.1 ≤ 9223372036854775807) :
    Calls Try.prog 51 #[mpV wd hg o, plV p] w fun e w' => e = .returned (.int .i64 (p.2 * wd + p.1)) ∧ Below w.heap.size w w' := by
  obtain ⟨x, y⟩ := p
  unfold mpV plV
  simp only at h1 h2 ⊢
  have HB := Lib.hid (((Below.refl _ w).alloc (Nat.le_refl w.heap.size) (.cells #[.int .i64 wd, .int .i64 hg, o] 24)).alloc (by simp) (.cells #[.int .i64 x, .int .i64 y] 30))
  have e1 : IntKind.i64.wrap (y * wd) = y * wd := IntWalk.i64_in _ (by omega)
  have e2 : IntKind.i64.wrap (y * wd + x) = y * wd + x := IntWalk.i64_in _ (by omega)
  clear h1 h2
  go_enter Try.func51, Try.ntmps51
  go_wp2_with fail
  go_ret
  exact ⟨rfl, HB.out⟩

/-- The height at a place. -/
def hAt (g : List Int) (wd : Int) (p : Pl) : Int := g.getD (p.2 * wd + p.1).toNat 0

set_option maxRecDepth 100000 in
set_option maxHeartbeats 1000000 in
theorem heightAt_any (wd hg : Int) (o : Value) (g : List Int) (p : Pl) (w : World) (hv : INRow w o g) (h1 : -9223372036854775808 ≤ p.2 * wd ∧ p.2 * wd ≤ 9223372036854775807) (h2 : 0 ≤ p.2 * wd + p.1 ∧ p.2 * wd + p.1 < g.length) (hl : g.length ≤ 9223372036854775807) :
    Calls Try.prog 46 #[mpV wd hg o, plV p] w fun e w' => e = .returned (.int .i64 (hAt g wd p)) ∧ Below w.heap.size w w' := by
  have HI := Lib.hid (fun w' => indexOf_any wd hg o p w' h1 (by omega))
  obtain ⟨k, hk⟩ : ∃ k : Nat, p.2 * wd + p.1 = k := ⟨(p.2 * wd + p.1).toNat, by omega⟩
  have HV : Hid (hAt g wd p = g.getD k 0) := Lib.hid (by unfold hAt; rw [hk]; rfl)
  rw [hk] at HI h2
  obtain ⟨a, cap, rfl, hc⟩ := hv.form
  obtain ⟨b, off, rfl, hb, c0⟩ := hc k (by omega)
  obtain ⟨v, hv0⟩ : ∃ v, g.getD k 0 = v := ⟨_, rfl⟩
  rw [hv0] at c0 HV
  obtain ⟨x, y⟩ := p
  unfold mpV plV at HI ⊢
  simp only at HI ⊢
  have HA := Lib.hid (fun W' => two_cells w #[.int .i64 wd, .int .i64 hg, .slice (some ⟨b, off, none⟩) g.length cap] #[.int .i64 x, .int .i64 y] 24 30 (W := W'))
  have HB0 := Lib.hid (((Below.refl _ w).alloc (Nat.le_refl w.heap.size) (.cells #[.int .i64 wd, .int .i64 hg, .slice (some ⟨b, off, none⟩) g.length cap] 24)).alloc (by simp) (.cells #[.int .i64 x, .int .i64 y] 30))
  obtain ⟨W1, hW1⟩ : ∃ W1, (w.alloc (.cells #[.int .i64 wd, .int .i64 hg, .slice (some ⟨b, off, none⟩) g.length cap] 24)).alloc (.cells #[.int .i64 x, .int .i64 y] 30) = W1 := ⟨_, rfl⟩
  rw [hW1] at HA HB0
  have HW1 := Lib.hid hW1
  have K0 : Hid (∀ W', Below W1.heap.size W1 W' → W'.cell? ⟨w.heap.size, 2, none⟩ = some (.slice (some ⟨b, off, none⟩) g.length cap) ∧ W'.cell? ⟨w.heap.size, 0, none⟩ = some (.int .i64 wd) ∧ W'.cell? ⟨w.heap.size, 1, none⟩ = some (.int .i64 hg) ∧
      W'.cell? ⟨w.heap.size + 1, 0, none⟩ = some (.int .i64 x) ∧ W'.cell? ⟨w.heap.size + 1, 1, none⟩ = some (.int .i64 y) ∧ W'.cell? ⟨b, off + k, none⟩ = some (.int .i64 v) ∧ Below w.heap.size w W') := Lib.hid (fun W' h => by
    obtain ⟨m0, m1, _, m3⟩ := HA.out W' h
    have q0 := cellH m0 0
    have q1 := cellH m0 1
    have q2 := cellH m0 2
    have r0 := cellH m1 0
    have r1 := cellH m1 1
    simp at q0 q1 q2 r0 r1
    exact ⟨q2, q0, q1, r0, r1, (m3.cell (p := ⟨b, _, none⟩) hb).trans c0, m3⟩)
  have CI : Hid (∀ w', Below W1.heap.size W1 w' → Calls Try.prog 51 #[.agg #[.int .i64 wd, .int .i64 hg, .slice (some ⟨b, off, none⟩) g.length cap], .agg #[.int .i64 x, .int .i64 y]] w' fun e w'' => e = .returned (.int .i64 (k : Int)) ∧ Below W1.heap.size W1 w'') := Lib.hid (fun w' h => (HI.out w').mono fun e w'' ⟨he, hh⟩ => ⟨he, h.trans (hh.mono h.size)⟩)
  have hki : (k : Int) < g.length := h2.2
  have hk0 : (0 : Int) ≤ k := h2.1
  clear hv hc c0 hk hv0 hW1 HI HA h1 h2
  go_enter Try.func46, Try.ntmps46
  go_wp2_with fail
  rw [HW1.out]
  refine wp_region_turn 5 (fun _ w' => Below W1.heap.size W1 w') (by kernel_rfl) (by kernel_rfl) ((Below.refl _ W1).drew) ?_
  simp only [List.take_succ_cons, List.take_zero, List.drop_succ_cons, List.drop_zero]
  iterate 5
    (first
      | (apply turnC_step (by rfl); (intro w' hw'; go_simp; exact CI.out w' hw'))
      | (apply turnC_step (by rfl); (intro w' hw'; obtain ⟨q0, q1, q2, q3, q4, q5, q6⟩ := K0.out w' hw'; go_simp; first | exact ⟨hw', rfl⟩ | exact rfl)))
    simp only [Act.put, List.setIfInBounds_toArray, List.set_cons_succ, List.set_cons_zero]
  intro listed w9 _ hw9
  obtain ⟨q0, q1, q2, q3, q4, q5, q6⟩ := K0.out w9 hw9
  have HB9 := Lib.hid q6
  clear q0 q1 q2 q3 q4 q6 hw9
  go_wp2_with fail
  go_ret
  exact ⟨ret_int' HV.out.symm, HB9.out⟩
end Go.Proofs.Ytjllkmekchmmbaa
