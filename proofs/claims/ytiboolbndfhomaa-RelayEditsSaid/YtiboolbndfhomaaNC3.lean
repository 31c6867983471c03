/- The reference of layer 2: Leave and Last. -/
import Derived.Test.YtiboolbndfhomaaNC2
set_option linter.unusedVariables false
set_option linter.unusedSimpArgs false
namespace Go.Proofs.Ytiboolbndfhomaa
open Go.RowKit

theorem link_cells (w : World) (fr to dl : Int) (o : Value) {W : World} (hb : Below (w.alloc (.cells #[.int .i64 fr, .int .i64 to, .int .i64 dl, o] 27)).heap.size (w.alloc (.cells #[.int .i64 fr, .int .i64 to, .int .i64 dl, o] 27)) W) :
    W.cell? ⟨w.heap.size, 2, none⟩ = some (.int .i64 dl) ∧ W.cell? ⟨w.heap.size, 3, none⟩ = some o ∧ w.heap.size < W.heap.size ∧ Below w.heap.size w W := by
  have hlt : w.heap.size < (w.alloc (.cells #[.int .i64 fr, .int .i64 to, .int .i64 dl, o] 27)).heap.size := by simp
  refine ⟨?_, ?_, Nat.lt_of_lt_of_le hlt hb.size, ((Below.refl _ w).alloc (Nat.le_refl _) _).trans (hb.mono (Nat.le_of_lt hlt))⟩
  · rw [World.cell?_of_block (w := w.alloc _) (hb.block w.heap.size hlt), World.cell?_alloc_new]; rfl
  · rw [World.cell?_of_block (w := w.alloc _) (hb.block w.heap.size hlt), World.cell?_alloc_new]; rfl

set_option maxRecDepth 100000 in
set_option maxHeartbeats 2000000 in
theorem rLeave_any (k : Lk) (t : Int) (o : Value) (w : World) (hs : SpRow w o k.op) (hl : k.op.length ≤ 9223372036854775807) :
    Calls Try.prog 13 #[lkV k o, .int .i64 t] w fun e w' => e = .returned (optV (leaveO k t)) ∧ Below w.heap.size w w' := by
  obtain ⟨a, cap, rfl, hc⟩ := hs.form
  have HC := Lib.hid hc
  have HCL := Lib.hid (fun w' (h : Below w.heap.size w w') => rlinked_any k (.slice a k.op.length cap) w' (hs.keep h) hl)
  clear hc hs
  by_cases hE : linkE k = 0
  case neg =>
    have HV : Hid (leaveO k t = none) := Lib.hid (by unfold leaveO; rw [if_neg hE])
    have hz : (linkE k != 0) = true := by simpa using hE
    obtain ⟨q, hq⟩ : ∃ q, linkE k = q := ⟨_, rfl⟩
    rw [hq] at HCL hz
    obtain ⟨fr, to, dl, op⟩ := k
    unfold lkV at HCL ⊢
    simp only at hl HC HCL ⊢
    clear hE hq
    have HB0 := Lib.hid ((Below.refl _ w).alloc (Nat.le_refl w.heap.size) (.cells #[.int .i64 fr, .int .i64 to, .int .i64 dl, .slice a op.length cap] 27))
    go_enter Try.func13, Try.ntmps13
    go_wp2_with fail
    refine (HCL.out _ HB0.out).mono ?_
    rintro e w1 ⟨rfl, hb⟩
    have HB1 := Lib.hid (HB0.out.trans (hb.mono HB0.out.size))
    clear hb
    go_wp2_with fail
    go_ret2
    exact ⟨ret_val' (by rw [HV.out]; rfl), HB1.out⟩
  obtain ⟨d1, d2, d3, d4⟩ := linkE_ok hE
  have HV : Hid (leaveO k t = leaveL k.op k.dl t) := Lib.hid (by unfold leaveO; rw [if_pos hE])
  have HBD : Hid (∀ i, i < k.op.length → 0 ≤ (k.op.getD i (0, 0)).1 ∧ (k.op.getD i (0, 0)).2 ≤ 1048576 ∧ (k.op.getD i (0, 0)).1 ≤ (k.op.getD i (0, 0)).2) := Lib.hid (fun i hi => by
    have := okS_bd _ _ d4 _ (sp_mem hi)
    exact ⟨by omega, this.2.2, this.2.1⟩)
  rw [hE] at HCL
  obtain ⟨fr, to, dl, op⟩ := k
  unfold lkV at HCL ⊢
  simp only at hl HC HCL HV HBD d1 d2 d3 ⊢
  clear hE d4
  have HB0 := Lib.hid ((Below.refl _ w).alloc (Nat.le_refl w.heap.size) (.cells #[.int .i64 fr, .int .i64 to, .int .i64 dl, .slice a op.length cap] 27))
  have HLk := Lib.hid (fun W => link_cells w fr to dl (.slice a op.length cap) (W := W))
  go_enter Try.func13, Try.ntmps13
  go_wp2_with fail
  refine (HCL.out _ HB0.out).mono ?_
  rintro e w1 ⟨rfl, hb⟩
  obtain ⟨c2, c3, hlt, hb1⟩ := HLk.out w1 hb
  have HB1 := Lib.hid hb1
  have HC2 := Lib.hid c2; have HC3 := Lib.hid c3
  clear hb hb1 c2 c3
  go_wp2_with fail
  go_loopw [6] (fun i wr => ∃ (k : Nat), k ≤ op.length ∧ i = .int .i64 k ∧ Hid (leaveL op dl t = leaveL (op.drop k) dl t) ∧ Hid (Below w1.heap.size w1 wr)) (fun i _ => op.length - (intOf i).toNat)
  case atStart => exact ⟨0, Nat.zero_le _, rfl, Lib.hid rfl, Lib.hid (Below.refl _ _)⟩
  case round =>
    obtain ⟨k, hk, rfl, hT, hB⟩ := hrel
    have r2 := (hB.out.cell (p := ⟨w.heap.size, 2, none⟩) hlt).trans HC2.out
    have r3 := (hB.out.cell (p := ⟨w.heap.size, 3, none⟩) hlt).trans HC3.out
    have hBw : Below w.heap.size w wr := HB1.out.trans (hB.out.mono HB1.out.size)
    have HBw := Lib.hid hBw
    by_cases hkl : k < op.length
    · obtain ⟨b, off, rfl, hb, c0, c1⟩ := HC.out k hkl
      obtain ⟨b0, b1, b2⟩ := HBD.out k hkl
      have hki : (k : Int) < op.length := by omega
      have hk0 : (0 : Int) ≤ k := by omega
      have e0 := (hBw.cell (p := ⟨b, _, none⟩) hb).trans c0
      have e1 := (hBw.cell (p := ⟨b, _, none⟩) hb).trans c1
      have hD : Hid (leaveL (op.drop k) dl t = if max (op.getD k (0, 0)).1 t ≤ (op.getD k (0, 0)).2 - dl then some (max (op.getD k (0, 0)).1 t) else leaveL (op.drop (k + 1)) dl t) := Lib.hid (by rw [drop_at hkl]; rfl)
      obtain ⟨⟨lo, hi⟩, hx⟩ : ∃ x, op.getD k (0, 0) = x := ⟨_, rfl⟩
      rw [hx] at e0 e1 hD b0 b1 b2
      simp only at e0 e1 hD b0 b1 b2
      rw [Int.max_comm] at hD
      clear c0 c1 hb hx hBw
      by_cases q : max t lo ≤ hi - dl
      · have HN : Hid (leaveO ⟨fr, to, dl, op⟩ t = some (max t lo)) := Lib.hid (by rw [HV.out, hT.out, hD.out, if_pos q])
        have hw : IntKind.i64.wrap (hi - dl) = hi - dl := IntWalk.i64_in _ (by omega)
        clear hD
        go_wp2_with fail
        go_quiet (fail)
        go_wp2_with fail
        go_ret2
        exact ⟨ret_val' (by rw [HN.out]; rfl), below_drewN HBw.out _⟩
      · have HN : Hid (leaveL op dl t = leaveL (op.drop (k + 1)) dl t) := Lib.hid (by rw [hT.out, hD.out, if_neg q])
        have p : decide (max t lo ≤ hi - dl) = false := decide_eq_false q
        have hw : IntKind.i64.wrap (hi - dl) = hi - dl := IntWalk.i64_in _ (by omega)
        clear hD
        go_wp2_with fail
        go_quiet (fail)
        go_wp2_with fail
        go_roundw
        case rel => exact ⟨k + 1, by omega, by go_num, HN, Lib.hid (below_drewN hB.out _)⟩
        case measure => simp [intOf]; omega
    · obtain rfl : k = op.length := by omega
      have HN : Hid (leaveO ⟨fr, to, dl, op⟩ t = none) := Lib.hid (by rw [HV.out, hT.out, List.drop_length]; rfl)
      go_wp2_with fail
      go_ret2
      exact ⟨ret_val' (by rw [HN.out]; rfl), HBw.out⟩

theorem lastL_app : ∀ (l m : List Sp) (d t : Int) (o : Option Int), lastL (l ++ m) d t o = lastL m d t (lastL l d t o)
  | [], _, _, _, _ => rfl
  | s :: l, m, d, t, o => by simp only [List.cons_append, lastL]; exact lastL_app l m d t _

set_option maxRecDepth 100000 in
set_option maxHeartbeats 2000000 in
theorem rLast_any (k : Lk) (t : Int) (o : Value) (w : World) (hs : SpRow w o k.op) (hl : k.op.length ≤ 9223372036854775807) (ht : -9223372036854775808 ≤ t ∧ t ≤ 9223372036854775807) :
    Calls Try.prog 15 #[lkV k o, .int .i64 t] w fun e w' => e = .returned (optV (lastO k t)) ∧ Below w.heap.size w w' := by
  obtain ⟨a, cap, rfl, hc⟩ := hs.form
  have HC := Lib.hid hc
  have HCL := Lib.hid (fun w' (h : Below w.heap.size w w') => rlinked_any k (.slice a k.op.length cap) w' (hs.keep h) hl)
  clear hc hs
  by_cases hE : linkE k = 0
  case neg =>
    have HV : Hid (lastO k t = none) := Lib.hid (by unfold lastO; rw [if_neg hE])
    have hz : (linkE k != 0) = true := by simpa using hE
    obtain ⟨q, hq⟩ : ∃ q, linkE k = q := ⟨_, rfl⟩
    rw [hq] at HCL hz
    obtain ⟨fr, to, dl, op⟩ := k
    unfold lkV at HCL ⊢
    simp only at hl HC HCL ⊢
    clear hE hq
    have HB0 := Lib.hid ((Below.refl _ w).alloc (Nat.le_refl w.heap.size) (.cells #[.int .i64 fr, .int .i64 to, .int .i64 dl, .slice a op.length cap] 27))
    go_enter Try.func15, Try.ntmps15
    go_wp2_with fail
    refine (HCL.out _ HB0.out).mono ?_
    rintro e w1 ⟨rfl, hb⟩
    have HB1 := Lib.hid (HB0.out.trans (hb.mono HB0.out.size))
    clear hb
    go_wp2_with fail
    go_ret2
    exact ⟨ret_val' (by rw [HV.out]; rfl), HB1.out⟩
  obtain ⟨d1, d2, d3, d4⟩ := linkE_ok hE
  have HV : Hid (lastO k t = lastL k.op k.dl t none) := Lib.hid (by unfold lastO; rw [if_pos hE])
  have HBD : Hid (∀ i, i < k.op.length → 0 ≤ (k.op.getD i (0, 0)).1 ∧ (k.op.getD i (0, 0)).2 ≤ 1048576 ∧ (k.op.getD i (0, 0)).1 ≤ (k.op.getD i (0, 0)).2) := Lib.hid (fun i hi => by
    have := okS_bd _ _ d4 _ (sp_mem hi)
    exact ⟨by omega, this.2.2, this.2.1⟩)
  rw [hE] at HCL
  obtain ⟨fr, to, dl, op⟩ := k
  unfold lkV at HCL ⊢
  simp only at hl HC HCL HV HBD d1 d2 d3 ⊢
  clear hE d4
  have HB0 := Lib.hid ((Below.refl _ w).alloc (Nat.le_refl w.heap.size) (.cells #[.int .i64 fr, .int .i64 to, .int .i64 dl, .slice a op.length cap] 27))
  have HLk := Lib.hid (fun W => link_cells w fr to dl (.slice a op.length cap) (W := W))
  have HTk : Hid (∀ j, j < op.length → lastL (op.take (j + 1)) dl t none = if (op.getD j (0, 0)).1 + dl ≤ min (op.getD j (0, 0)).2 t then some (min (op.getD j (0, 0)).2 t - dl) else lastL (op.take j) dl t none) := Lib.hid (fun j hj => by
    have e : op.getD j (0, 0) = op[j] := by rw [List.getD_eq_getElem?_getD, List.getElem?_eq_getElem hj]; rfl
    rw [List.take_succ_eq_append_getElem hj, lastL_app, e]; rfl)
  go_enter Try.func15, Try.ntmps15
  go_wp2_with fail
  refine (HCL.out _ HB0.out).mono ?_
  rintro e w1 ⟨rfl, hb⟩
  obtain ⟨c2, c3, hlt, hb1⟩ := HLk.out w1 hb
  have HB1 := Lib.hid hb1
  have HC2 := Lib.hid c2; have HC3 := Lib.hid c3
  clear hb hb1 c2
  go_wp2_with fail
  go_loopw [6] (fun i wr => ∃ (k : Nat) (J : Int), k ≤ op.length ∧ i = .int .i64 J ∧ J = (k : Int) - 1 ∧ Hid (lastL op dl t none = lastL (op.take k) dl t none) ∧ Hid (Below w1.heap.size w1 wr)) (fun i _ => (intOf i + 1).toNat)
  case atStart => exact ⟨op.length, _, Nat.le_refl _, rfl, rfl, Lib.hid (by rw [List.take_length]), Lib.hid (Below.refl _ _)⟩
  case round =>
    clear c3
    obtain ⟨k, J, hk, rfl, hJ, hT, hB⟩ := hrel
    have r2 := (hB.out.cell (p := ⟨w.heap.size, 2, none⟩) hlt).trans HC2.out
    have r3 := (hB.out.cell (p := ⟨w.heap.size, 3, none⟩) hlt).trans HC3.out
    have hBw : Below w.heap.size w wr := HB1.out.trans (hB.out.mono HB1.out.size)
    have HBw := Lib.hid hBw
    by_cases hk0 : k = 0
    · subst hk0
      have HN : Hid (lastO ⟨fr, to, dl, op⟩ t = none) := Lib.hid (by rw [HV.out, hT.out]; rfl)
      obtain rfl : J = -1 := by omega
      clear hJ
      go_wp2_with fail
      go_ret2
      exact ⟨ret_val' (by rw [HN.out]; rfl), HBw.out⟩
    · obtain ⟨j, rfl⟩ : ∃ j, k = j + 1 := ⟨k - 1, by omega⟩
      obtain rfl : J = (j : Int) := by omega
      clear hJ hk0
      obtain ⟨b, off, rfl, hb, c0, c1⟩ := HC.out j (by omega)
      obtain ⟨b0, b1, b2⟩ := HBD.out j (by omega)
      have hji : (j : Int) < op.length := by omega
      have hj0 : (0 : Int) ≤ j := by omega
      have e0 := (hBw.cell (p := ⟨b, _, none⟩) hb).trans c0
      have e1 := (hBw.cell (p := ⟨b, _, none⟩) hb).trans c1
      have hD := Lib.hid (HTk.out j (by omega))
      obtain ⟨⟨lo, hi⟩, hx⟩ : ∃ x, op.getD j (0, 0) = x := ⟨_, rfl⟩
      rw [hx] at e0 e1 hD b0 b1 b2
      simp only at e0 e1 hD b0 b1 b2
      rw [Int.min_comm] at hD
      clear c0 c1 hb hx hBw
      by_cases ht0 : 0 ≤ t
      · have hw : IntKind.i64.wrap (min t hi - dl) = min t hi - dl := IntWalk.i64_in _ (by omega)
        by_cases q : lo ≤ min t hi - dl
        · have HN : Hid (lastO ⟨fr, to, dl, op⟩ t = some (min t hi - dl)) := Lib.hid (by rw [HV.out, hT.out, hD.out, if_pos (by omega)])
          clear hD
          go_wp2_with fail
          go_quiet (fail)
          try rw [hw]
          go_wp2_with fail
          go_ret2
          exact ⟨ret_val' (by rw [HN.out]; rfl), below_drewN HBw.out _⟩
        · have HN : Hid (lastL op dl t none = lastL (op.take j) dl t none) := Lib.hid (by rw [hT.out, hD.out, if_neg (by omega)])
          have p : decide (lo ≤ min t hi - dl) = false := decide_eq_false q
          clear hD
          go_wp2_with fail
          go_quiet (fail)
          try rw [hw]
          go_wp2_with fail
          go_roundw
          case rel => exact ⟨j, _, by omega, rfl, by go_num, HN, Lib.hid (below_drewN hB.out _)⟩
          case measure => first | (simp [intOf]; done) | (simp [intOf]; omega)
      · have HN : Hid (lastL op dl t none = lastL (op.take j) dl t none) := Lib.hid (by rw [hT.out, hD.out, if_neg (by omega)])
        have p : decide (0 ≤ t) = false := decide_eq_false ht0
        clear hD
        go_wp2_with fail
        go_quiet (fail)
        go_wp2_with fail
        go_roundw
        case rel => exact ⟨j, _, by omega, rfl, by go_num, HN, Lib.hid (below_drewN hB.out _)⟩
        case measure => first | (simp [intOf]; done) | (simp [intOf]; omega)
end Go.Proofs.Ytiboolbndfhomaa
