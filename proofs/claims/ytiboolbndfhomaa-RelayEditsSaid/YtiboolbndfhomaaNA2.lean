/- Leave, Last, isStation, Check, checkStart, checkWay and canLeave of package relay. -/
import Derived.Test.YtiboolbndfhomaaNA1
import Derived.Lib.MinMax
set_option linter.unusedVariables false
set_option linter.unusedSimpArgs false
namespace Go.Proofs.Ytiboolbndfhomaa
open Go.RowKit

theorem linkE_ok {k : Lk} (h : linkE k = 0) : 1 ≤ k.dl ∧ k.dl ≤ 1440 ∧ k.op.length ≤ 12 ∧ okS (-1) k.op = true := by
  unfold linkE at h
  split at h
  · cases h
  · split at h
    · cases h
    · split at h
      · rename_i h1 h2 h3; exact ⟨by omega, by omega, by omega, h3⟩
      · cases h

set_option maxRecDepth 100000 in
set_option maxHeartbeats 1000000 in
theorem Leave_any (k : Lk) (t : Int) (o : Value) (w : World) (hs : SpRow w o k.op) (hl : k.op.length ≤ 9223372036854775807) :
    Calls Try.prog 12 #[lkV k o, .int .i64 t] w fun e w' => e = .returned (optV (leaveO k t)) ∧ Below w.heap.size w w' := by
  obtain ⟨a, cap, rfl, hc⟩ := hs.form
  have HC := Lib.hid hc
  have HCL := Lib.hid (fun w' (h : Below w.heap.size w w') => checkLink_any k (.slice a k.op.length cap) w' (hs.keep h) hl)
  clear hc hs
  by_cases hE : linkE k = 0
  case neg =>
    have HV : Hid (leaveO k t = none) := Lib.hid (by unfold leaveO; rw [if_neg hE])
    have hz : (linkE k != 0) = true := by simpa using hE
    obtain ⟨q, hq⟩ : ∃ q, linkE k = q := ⟨_, rfl⟩
    rw [hq] at HCL hz
    obtain ⟨fr, to, dl, op⟩ := k
    unfold lkV at HCL ⊢
    simp only at hl HC HCL ⊢
    clear hE hq
    have HB0 := Lib.hid ((Below.refl _ w).alloc (Nat.le_refl w.heap.size) (.cells #[.int .i64 fr, .int .i64 to, .int .i64 dl, .slice a op.length cap] 27))
    go_enter Try.func12, Try.ntmps12
    go_wp2_with fail
    refine (HCL.out _ HB0.out).mono ?_
    rintro e w1 ⟨rfl, hb⟩
    have HB1 := Lib.hid (HB0.out.trans (hb.mono HB0.out.size))
    clear hb
    go_wp2_with fail
    go_ret2
    exact ⟨ret_val' (by rw [HV.out]; rfl), HB1.out⟩
  obtain ⟨d1, d2, d3, d4⟩ := linkE_ok hE
  have HV : Hid (leaveO k t = leaveL k.op k.dl t) := Lib.hid (by unfold leaveO; rw [if_pos hE])
  have HBD : Hid (∀ i, i < k.op.length → 0 ≤ (k.op.getD i (0, 0)).1 ∧ (k.op.getD i (0, 0)).2 ≤ 1048576 ∧ (k.op.getD i (0, 0)).1 ≤ (k.op.getD i (0, 0)).2) := Lib.hid (fun i hi => by
    have := okS_bd _ _ d4 _ (sp_mem hi)
    exact ⟨by omega, this.2.2, this.2.1⟩)
  rw [hE] at HCL
  obtain ⟨fr, to, dl, op⟩ := k
  unfold lkV at HCL ⊢
  simp only at hl HC HCL HV HBD d1 d2 d3 ⊢
  clear hE d4
  have HB0 := Lib.hid ((Below.refl _ w).alloc (Nat.le_refl w.heap.size) (.cells #[.int .i64 fr, .int .i64 to, .int .i64 dl, .slice a op.length cap] 27))
  go_enter Try.func12, Try.ntmps12
  go_wp2_with fail
  refine (HCL.out _ HB0.out).mono ?_
  rintro e w1 ⟨rfl, hb⟩
  have HB1 := Lib.hid (HB0.out.trans (hb.mono HB0.out.size))
  have c2 : w1.cell? ⟨w.heap.size, 2, none⟩ = some (.int .i64 dl) := by rw [World.cell?_of_block (w := w.alloc _) (hb.block w.heap.size (by simp))]; rw [World.cell?_alloc_new]; rfl
  have c3 : w1.cell? ⟨w.heap.size, 3, none⟩ = some (.slice a op.length cap) := by rw [World.cell?_of_block (w := w.alloc _) (hb.block w.heap.size (by simp))]; rw [World.cell?_alloc_new]; rfl
  have hs1 : w.heap.size < w1.heap.size := Nat.lt_of_lt_of_le (by simp) hb.size
  have HC2 := Lib.hid c2
  clear hb
  go_wp2_with fail
  go_loopw [15] (fun i wr => ∃ (k : Nat), k ≤ op.length ∧ i = .int .i64 k ∧ Hid (leaveL op dl t = leaveL (op.drop k) dl t) ∧ Hid (Below w.heap.size w wr) ∧ Hid (Below w1.heap.size w1 wr)) (fun i _ => op.length - (intOf i).toNat)
  case atStart => exact ⟨0, Nat.zero_le _, rfl, Lib.hid rfl, HB1, Lib.hid (Below.refl _ _)⟩
  case round =>
    clear c2 c3
    obtain ⟨k, hk, rfl, hT, hB, hB1⟩ := hrel
    by_cases hkl : k < op.length
    · obtain ⟨b, off, rfl, hb, c0, c1⟩ := HC.out k hkl
      obtain ⟨b0, b1, b2⟩ := HBD.out k hkl
      have hki : (k : Int) < op.length := by omega
      have hk0 : (0 : Int) ≤ k := by omega
      have e0 := (hB.out.cell (p := ⟨b, _, none⟩) hb).trans c0
      have e1 := (hB.out.cell (p := ⟨b, _, none⟩) hb).trans c1
      have hsz : w.heap.size < wr.heap.size := Nat.lt_of_lt_of_le hs1 hB1.out.size
      have hnz : w.heap.size ≠ wr.heap.size := by omega
      have e2 := (hB1.out.cell (p := ⟨w.heap.size, 2, none⟩) hs1).trans HC2.out
      have hD : Hid (leaveL (op.drop k) dl t = if max (op.getD k (0, 0)).1 t ≤ (op.getD k (0, 0)).2 - dl then some (max (op.getD k (0, 0)).1 t) else leaveL (op.drop (k + 1)) dl t) := Lib.hid (by rw [drop_at hkl]; rfl)
      obtain ⟨⟨lo, hi⟩, hx⟩ : ∃ x, op.getD k (0, 0) = x := ⟨_, rfl⟩
      rw [hx] at e0 e1 hD b0 b1 b2
      simp only at e0 e1 hD b0 b1 b2
      have HBn : Hid (∀ o, Below w.heap.size w (wr.alloc o)) := Lib.hid fun o => hB.out.alloc hB.out.size o
      have HBm : Hid (∀ o, Below w1.heap.size w1 (wr.alloc o)) := Lib.hid fun o => hB1.out.alloc hB1.out.size o
      clear c0 c1 hb hx
      by_cases q : max lo t ≤ hi - dl
      · have HN : Hid (leaveO ⟨fr, to, dl, op⟩ t = some (max lo t)) := Lib.hid (by rw [HV.out, hT.out, hD.out, if_pos q])
        clear hD
        go_wp2_with fail
        go_ret2
        exact ⟨ret_val' (by rw [HN.out]; rfl), HBn.out _⟩
      · have HN : Hid (leaveL op dl t = leaveL (op.drop (k + 1)) dl t) := Lib.hid (by rw [hT.out, hD.out, if_neg q])
        have p : decide (max lo t ≤ hi - dl) = false := decide_eq_false q
        clear hD
        go_wp2_with fail
        go_roundw
        case rel => exact ⟨k + 1, by omega, by go_num, HN, HBn.out _, HBm.out _⟩
        case measure => simp [intOf]; omega
    · obtain rfl : k = op.length := by omega
      have HN : Hid (leaveO ⟨fr, to, dl, op⟩ t = none) := Lib.hid (by rw [HV.out, hT.out, List.drop_length]; rfl)
      go_wp2_with fail
      go_ret2
      exact ⟨ret_val' (by rw [HN.out]; rfl), hB.out⟩
end Go.Proofs.Ytiboolbndfhomaa
