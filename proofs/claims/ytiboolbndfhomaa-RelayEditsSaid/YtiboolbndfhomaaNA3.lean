/- Last, isStation, Check of package relay. -/
import Derived.Test.YtiboolbndfhomaaNA2
set_option linter.unusedVariables false
set_option linter.unusedSimpArgs false
namespace Go.Proofs.Ytiboolbndfhomaa
open Go.RowKit

set_option maxRecDepth 100000 in
set_option maxHeartbeats 1000000 in
theorem Last_any (k : Lk) (t : Int) (o : Value) (w : World) (hs : SpRow w o k.op) (hl : k.op.length ≤ 9223372036854775807) :
    Calls Try.prog 14 #[lkV k o, .int .i64 t] w fun e w' => e = .returned (optV (lastO k t)) ∧ Below w.heap.size w w' := by
  obtain ⟨a, cap, rfl, hc⟩ := hs.form
  have HC := Lib.hid hc
  have HCL := Lib.hid (fun w' (h : Below w.heap.size w w') => checkLink_any k (.slice a k.op.length cap) w' (hs.keep h) hl)
  clear hc hs
  by_cases hE : linkE k = 0
  case neg =>
    have HV : Hid (lastO k t = none) := Lib.hid (by unfold lastO; rw [if_neg hE])
    have hz : (linkE k != 0) = true := by simpa using hE
    obtain ⟨q, hq⟩ : ∃ q, linkE k = q := ⟨_, rfl⟩
    rw [hq] at HCL hz
    obtain ⟨fr, to, dl, op⟩ := k
    unfold lkV at HCL ⊢
    simp only at hl HC HCL ⊢
    clear hE hq
    have HB0 := Lib.hid ((Below.refl _ w).alloc (Nat.le_refl w.heap.size) (.cells #[.int .i64 fr, .int .i64 to, .int .i64 dl, .slice a op.length cap] 27))
    go_enter Try.func14, Try.ntmps14
    go_wp2_with fail
    refine (HCL.out _ HB0.out).mono ?_
    rintro e w1 ⟨rfl, hb⟩
    have HB1 := Lib.hid (HB0.out.trans (hb.mono HB0.out.size))
    clear hb
    go_wp2_with fail
    go_ret2
    exact ⟨ret_val' (by rw [HV.out]; rfl), HB1.out⟩
  obtain ⟨d1, d2, d3, d4⟩ := linkE_ok hE
  have HV : Hid (lastO k t = lastL k.op k.dl t none) := Lib.hid (by unfold lastO; rw [if_pos hE])
  have HBD : Hid (∀ i, i < k.op.length → 0 ≤ (k.op.getD i (0, 0)).1 ∧ (k.op.getD i (0, 0)).2 ≤ 1048576 ∧ (k.op.getD i (0, 0)).1 ≤ (k.op.getD i (0, 0)).2) := Lib.hid (fun i hi => by
    have := okS_bd _ _ d4 _ (sp_mem hi)
    exact ⟨by omega, this.2.2, this.2.1⟩)
  rw [hE] at HCL
  obtain ⟨fr, to, dl, op⟩ := k
  unfold lkV at HCL ⊢
  simp only at hl HC HCL HV HBD d1 d2 d3 ⊢
  clear hE d4
  have HB0 := Lib.hid ((Below.refl _ w).alloc (Nat.le_refl w.heap.size) (.cells #[.int .i64 fr, .int .i64 to, .int .i64 dl, .slice a op.length cap] 27))
  go_enter Try.func14, Try.ntmps14
  go_wp2_with fail
  refine (HCL.out _ HB0.out).mono ?_
  rintro e w1 ⟨rfl, hb⟩
  have HB1 := Lib.hid (HB0.out.trans (hb.mono HB0.out.size))
  have c2 : w1.cell? ⟨w.heap.size, 2, none⟩ = some (.int .i64 dl) := by rw [World.cell?_of_block (w := w.alloc _) (hb.block w.heap.size (by simp))]; rw [World.cell?_alloc_new]; rfl
  have c3 : w1.cell? ⟨w.heap.size, 3, none⟩ = some (.slice a op.length cap) := by rw [World.cell?_of_block (w := w.alloc _) (hb.block w.heap.size (by simp))]; rw [World.cell?_alloc_new]; rfl
  have hs1 : w.heap.size < w1.heap.size := Nat.lt_of_lt_of_le (by simp) hb.size
  have HC2 := Lib.hid c2
  clear hb
  go_wp2_with fail
  go_loopw [6, 7, 17] (fun d g i wr => ∃ (k : Nat) (x : Int) (y : Bool), k ≤ op.length ∧ i = .int .i64 k ∧ d = .int .i64 x ∧ g = .bool y ∧ Hid (∃ o : Option Int, x = o.getD 0 ∧ y = o.isSome ∧ lastL op dl t none = lastL (op.drop k) dl t o) ∧ Hid (Below w.heap.size w wr) ∧ Hid (Below w1.heap.size w1 wr)) (fun _ _ i _ => op.length - (intOf i).toNat)
  case atStart => exact ⟨0, 0, false, Nat.zero_le _, rfl, rfl, rfl, Lib.hid ⟨none, rfl, rfl, rfl⟩, HB1, Lib.hid (Below.refl _ _)⟩
  case round =>
    clear c2 c3
    obtain ⟨k, x, y, hk, rfl, rfl, rfl, hT, hB, hB1⟩ := hrel
    by_cases hkl : k < op.length
    · obtain ⟨b, off, rfl, hb, c0, c1⟩ := HC.out k hkl
      obtain ⟨b0, b1, b2⟩ := HBD.out k hkl
      have hki : (k : Int) < op.length := by omega
      have hk0 : (0 : Int) ≤ k := by omega
      have e0 := (hB.out.cell (p := ⟨b, _, none⟩) hb).trans c0
      have e1 := (hB.out.cell (p := ⟨b, _, none⟩) hb).trans c1
      have hsz : w.heap.size < wr.heap.size := Nat.lt_of_lt_of_le hs1 hB1.out.size
      have hnz : w.heap.size ≠ wr.heap.size := by omega
      have e2 := (hB1.out.cell (p := ⟨w.heap.size, 2, none⟩) hs1).trans HC2.out
      have hD : Hid (∀ o, lastL (op.drop k) dl t o = lastL (op.drop (k + 1)) dl t (if (op.getD k (0, 0)).1 + dl ≤ min (op.getD k (0, 0)).2 t then some (min (op.getD k (0, 0)).2 t - dl) else o)) := Lib.hid (fun o => by rw [drop_at hkl]; rfl)
      obtain ⟨⟨lo, hi⟩, hx⟩ : ∃ x, op.getD k (0, 0) = x := ⟨_, rfl⟩
      rw [hx] at e0 e1 hD b0 b1 b2
      simp only at e0 e1 hD b0 b1 b2
      have HBn : Hid (∀ o, Below w.heap.size w (wr.alloc o)) := Lib.hid fun o => hB.out.alloc hB.out.size o
      have HBm : Hid (∀ o, Below w1.heap.size w1 (wr.alloc o)) := Lib.hid fun o => hB1.out.alloc hB1.out.size o
      clear c0 c1 hb hx
      by_cases q : lo + dl ≤ min hi t
      · have HN : Hid (∃ o : Option Int, min hi t - dl = o.getD 0 ∧ true = o.isSome ∧ lastL op dl t none = lastL (op.drop (k + 1)) dl t o) := Lib.hid (by
          obtain ⟨o, _, _, h⟩ := hT.out
          exact ⟨some (min hi t - dl), rfl, rfl, by rw [h, hD.out, if_pos q]⟩)
        have q2 : min hi t ≤ 1048576 := by omega
        clear hD
        go_wp2_with fail
        go_roundw
        case rel => exact ⟨k + 1, _, _, by omega, by go_num, rfl, rfl, HN, HBn.out _, HBm.out _⟩
        case measure => simp [intOf]; omega
      · have HN : Hid (∃ o : Option Int, x = o.getD 0 ∧ y = o.isSome ∧ lastL op dl t none = lastL (op.drop (k + 1)) dl t o) := Lib.hid (by
          obtain ⟨o, h1, h2, h⟩ := hT.out
          exact ⟨o, h1, h2, by rw [h, hD.out, if_neg q]⟩)
        have p : decide (lo + dl ≤ min hi t) = false := decide_eq_false q
        clear hD
        go_wp2_with fail
        go_roundw
        case rel => exact ⟨k + 1, _, _, by omega, by go_num, rfl, rfl, HN, HBn.out _, HBm.out _⟩
        case measure => simp [intOf]; omega
    · obtain rfl : k = op.length := by omega
      have HN : Hid (Value.tuple #[.int .i64 x, .bool y] = optV (lastO ⟨fr, to, dl, op⟩ t)) := Lib.hid (by
        obtain ⟨o, h1, h2, h⟩ := hT.out
        rw [List.drop_length] at h
        rw [HV.out, h, h1, h2]
        cases o <;> rfl)
      go_wp2_with fail
      go_ret2
      exact ⟨ret_val' HN.out, hB.out⟩

def stB (st a : Int) : Bool := decide (0 ≤ a) && decide (a < st)
def ntV (st : Int) (o : Value) : Value := .agg #[.int .i64 st, o]
theorem isStation_any (st a : Int) (o : Value) (w : World) :
    Calls Try.prog 37 #[ntV st o, .int .i64 a] w fun e w' => e = .returned (.bool (stB st a)) ∧ Below w.heap.size w w' := by
  have HB0 := Lib.hid ((Below.refl _ w).alloc (Nat.le_refl w.heap.size) (.cells #[.int .i64 st, o] 24))
  have HV : Hid (stB st a = (decide (0 ≤ a) && decide (a < st))) := Lib.hid rfl
  unfold ntV
  by_cases h : 0 ≤ a
  · have HV : Hid (stB st a = decide (a < st)) := Lib.hid (by rw [HV.out, decide_eq_true h, Bool.true_and])
    go_enter Try.func37, Try.ntmps37
    go_wp2_with fail
    go_ret
    exact ⟨ret_bool' (by rw [HV.out]), HB0.out⟩
  · have HV : Hid (stB st a = false) := Lib.hid (by rw [HV.out, decide_eq_false h, Bool.false_and])
    have h' : decide (0 ≤ a) = false := decide_eq_false h
    go_enter Try.func37, Try.ntmps37
    go_wp2_with fail
    go_ret
    exact ⟨ret_bool' (by rw [HV.out]), HB0.out⟩
end Go.Proofs.Ytiboolbndfhomaa
