/- SameNet of the reference, at two nets that read the same. -/
import Derived.Test.YtiboolbndfhomaaND4
set_option linter.unusedVariables false
set_option linter.unusedSimpArgs false
namespace Go.Proofs.Ytiboolbndfhomaa
open Go.RowKit

set_option maxRecDepth 100000 in
set_option maxHeartbeats 4000000 in
theorem rSameNet_any (st : Int) (o u : Value) (ls : List Lk) (w : World) (hv : NRow w o ls) (hu : NRow w u ls) :
    Calls Try.prog 33 #[ntV st o, ntV st u] w fun e w' => e = .returned (.bool true) ∧ Below w.heap.size w w' := by
  obtain ⟨a, ca, rfl, hc⟩ := hv.row.form
  obtain ⟨b, cb, rfl, hd⟩ := hu.row.form
  have HC := Lib.hid hc
  have HD := Lib.hid hd
  have HL := Lib.hid hv.op
  have hll := hv.len
  have HA := Lib.hid (fun W' => two_cells w #[.int .i64 st, .slice a ls.length ca] #[.int .i64 st, .slice b ls.length cb] 24 24 (W := W'))
  have HB0 := Lib.hid (((Below.refl _ w).alloc (Nat.le_refl w.heap.size) (.cells #[.int .i64 st, .slice a ls.length ca] 24)).alloc (by simp) (.cells #[.int .i64 st, .slice b ls.length cb] 24))
  obtain ⟨W1, hW1⟩ : ∃ W1, (w.alloc (.cells #[.int .i64 st, .slice a ls.length ca] 24)).alloc (.cells #[.int .i64 st, .slice b ls.length cb] 24) = W1 := ⟨_, rfl⟩
  rw [hW1] at HA HB0
  have HW1 := Lib.hid hW1
  obtain ⟨m0, m1, hlt, _⟩ := HA.out W1 (Below.refl _ _)
  have n0 := cellH m0 0
  have n1 := cellH m0 1
  have y0 := cellH m1 0
  have y1 := cellH m1 1
  simp at n0 n1 y0 y1
  have hw0 : w.heap.size < W1.heap.size := by omega
  have hw1 : w.heap.size + 1 < W1.heap.size := by omega
  unfold ntV
  clear hc hd hv hu hW1 m0 m1
  go_enter Try.func33, Try.ntmps33
  go_wp2_with fail
  rw [HW1.out]
  go_loopw [5] (fun i wr => ∃ (k : Nat), k ≤ ls.length ∧ i = .int .i64 k ∧ Hid (Below W1.heap.size W1 wr)) (fun i _ => ls.length - (intOf i).toNat)
  case atStart => exact ⟨0, Nat.zero_le _, rfl, Lib.hid (Below.refl _ _)⟩
  case round =>
    clear n0 n1 y0 y1
    obtain ⟨k, hk, rfl, hB1⟩ := hrel
    obtain ⟨V, rfl⟩ : ∃ V, V = wr := ⟨_, rfl⟩
    obtain ⟨m0, m1, hsz, hB⟩ := HA.out V hB1.out
    have n1 := cellH m0 1
    have y1 := cellH m1 1
    simp at n1 y1
    have HB := Lib.hid hB
    clear m0 m1
    by_cases hkl : k < ls.length
    · have hki : (k : Int) < ls.length := by omega
      have hk0 : (0 : Int) ≤ k := by omega
      obtain ⟨ba, oa, rfl, hba, c0, c1, c2, ov, c3, hsp⟩ := HC.out k hkl
      obtain ⟨bb, ob, rfl, hbb, d0, d1, d2, ow, d3, hsq⟩ := HD.out k hkl
      have c0' := (hB.cell (p := ⟨ba, _, none⟩) hba).trans c0
      have c1' := (hB.cell (p := ⟨ba, _, none⟩) hba).trans c1
      have c2' := (hB.cell (p := ⟨ba, _, none⟩) hba).trans c2
      have c3' := (hB.cell (p := ⟨ba, _, none⟩) hba).trans c3
      have d0' := (hB.cell (p := ⟨bb, _, none⟩) hbb).trans d0
      have d1' := (hB.cell (p := ⟨bb, _, none⟩) hbb).trans d1
      have d2' := (hB.cell (p := ⟨bb, _, none⟩) hbb).trans d2
      have d3' := (hB.cell (p := ⟨bb, _, none⟩) hbb).trans d3
      have hlo := HL.out _ (lk_mem hkl)
      have hsp1 := hsp.keep hB
      have hsq1 := hsq.keep hB
      obtain ⟨x, hx⟩ : ∃ x, ls.getD k .nil = x := ⟨_, rfl⟩
      rw [hx] at hlo hsp1 hsq1 c0' c1' c2' d0' d1' d2'
      obtain ⟨pa, pca, rfl, hpa⟩ := hsp1.form
      obtain ⟨pb, pcb, rfl, hpb⟩ := hsq1.form
      have HPA := Lib.hid hpa
      have HPB := Lib.hid hpb
      have hsw : w.heap.size ≠ V.heap.size := by omega
      have hsw1 : w.heap.size + 1 ≠ V.heap.size := by omega
      have hbw : bb ≠ V.heap.size := by have := hB.size; omega
      have hbb' : bb < V.heap.size := by have := hB.size; omega
      clear c0 c1 c2 c3 d0 d1 d2 d3 hx hsp hsq hsp1 hsq1 hB hpa hpb
      have HX := Lib.hid (fun W' => two_cells V #[.int .i64 x.fr, .int .i64 x.to, .int .i64 x.dl, .slice pa x.op.length pca] #[.int .i64 x.fr, .int .i64 x.to, .int .i64 x.dl, .slice pb x.op.length pcb] 27 27 (W := W'))
      obtain ⟨W2, hW2⟩ : ∃ W2, (V.alloc (.cells #[.int .i64 x.fr, .int .i64 x.to, .int .i64 x.dl, .slice pa x.op.length pca] 27)).alloc (.cells #[.int .i64 x.fr, .int .i64 x.to, .int .i64 x.dl, .slice pb x.op.length pcb] 27) = W2 := ⟨_, rfl⟩
      rw [hW2] at HX
      have HW2 := Lib.hid hW2
      clear hW2
      go_wp2_with fail
      rw [HW2.out]
      go_loopw [8] (fun i ws => ∃ (q : Nat), q ≤ x.op.length ∧ i = .int .i64 q ∧ Hid (Below W2.heap.size W2 ws)) (fun i _ => x.op.length - (intOf i).toNat)
      case atStart => exact ⟨0, Nat.zero_le _, rfl, Lib.hid (Below.refl _ _)⟩
      case round =>
        obtain ⟨q, hq, rfl, hB2⟩ := hrel
        obtain ⟨p0, p1, hs2, hb2⟩ := HX.out wr hB2.out
        have z3 := cellH p0 3
        have v3 := cellH p1 3
        simp at z3 v3
        have HB2 := Lib.hid hb2
        clear p0 p1 c0' c1' c2' c3' d0' d1' d2' d3' n1 y1
        by_cases hql : q < x.op.length
        · have hqi : (q : Int) < x.op.length := by omega
          have hq0 : (0 : Int) ≤ q := by omega
          obtain ⟨sa, sao, rfl, hsa, e0, e1⟩ := HPA.out q hql
          obtain ⟨sb, sbo, rfl, hsb, f0, f1⟩ := HPB.out q hql
          have e0' := (hb2.cell (p := ⟨sa, _, none⟩) hsa).trans e0
          have e1' := (hb2.cell (p := ⟨sa, _, none⟩) hsa).trans e1
          have f0' := (hb2.cell (p := ⟨sb, _, none⟩) hsb).trans f0
          have f1' := (hb2.cell (p := ⟨sb, _, none⟩) hsb).trans f1
          obtain ⟨y, hy⟩ : ∃ y, x.op.getD q (0, 0) = y := ⟨_, rfl⟩
          rw [hy] at e0' e1' f0' f1'
          clear e0 e1 f0 f1 hy hb2
          go_wp2_with fail
          go_quiet (fail)
          go_wp2_with fail
          go_roundw
          case rel => exact ⟨q + 1, by omega, by go_num, Lib.hid (below_drewN hB2.out _)⟩
          case measure => simp [intOf]; omega
        · obtain rfl : x.op.length = q := by omega
          have HBF : Hid (Below W1.heap.size W1 wr) := Lib.hid (hB1.out.trans (HB2.out.mono hB1.out.size))
          clear hb2
          go_wp2_with fail
          go_roundw
          case rel => exact ⟨k + 1, by omega, by go_num, HBF⟩
          case measure => simp [intOf]; omega
    · obtain rfl : ls.length = k := by omega
      go_wp2_with fail
      go_ret
      exact ⟨rfl, HB.out⟩
end Go.Proofs.Ytiboolbndfhomaa
