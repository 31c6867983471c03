/- The reference's Can. -/
import Derived.Test.YtgcaldceiogkaaaDoorP9
import Derived.Test.YtgcaldceiogkaaaDoorE3
namespace Go.Proofs.YtgcaldceiogkaaaDoor
open Go.RowKit Go.Shelf

theorem touch_any (l : List Flt) (p : Int) : decide (0 < (touchR l p : Int)) = l.any (covers p) := by
  unfold touchR
  rw [Bool.eq_iff_iff]
  simp only [decide_eq_true_eq, List.any_eq_true]
  exact ⟨fun h => List.countP_pos_iff.1 (by omega), fun h => by have := List.countP_pos_iff.2 h; omega⟩
/-- The fault itself is wrong. -/
def argB (n : Int) (f : Flt) : Bool := decide (f.1 < 1) || decide (3 < f.1) || decide (f.2 < 0) || decide (n ≤ f.2) || decide (f.1 = 3) && decide (n - 1 ≤ f.2)
theorem errF_alt (n : Int) (pre : List Flt) (f : Flt) : errF n pre f = if argB n f then 1 else if pre.any (covers f.2) || decide (f.1 = 3) && pre.any (covers (f.2 + 1)) then 6 else 0 := by
  have h : argB n f = decide (widthZ f.1 = 0 ∨ f.2 < 0 ∨ n - widthZ f.1 < f.2) := by
    unfold argB widthZ
    rw [Bool.eq_iff_iff]
    simp only [Bool.or_eq_true, Bool.and_eq_true, decide_eq_true_eq]
    split
    · omega
    · split
      · omega
      · omega
  unfold errF
  rw [h]
  by_cases hc : widthZ f.1 = 0 ∨ f.2 < 0 ∨ n - widthZ f.1 < f.2
  · rw [if_pos hc, decide_eq_true hc]; rfl
  · rw [if_neg hc, decide_eq_false hc]
    simp only [Bool.false_eq_true, if_false]
    by_cases hb : pre.any (covers f.2) = true ∨ (f.1 = 3 ∧ pre.any (covers (f.2 + 1)) = true)
    · have e : (pre.any (covers f.2) || decide (f.1 = 3) && pre.any (covers (f.2 + 1))) = true := by
        simp only [Bool.or_eq_true, Bool.and_eq_true, decide_eq_true_eq]; exact hb
      rw [if_pos hb, if_pos e]
    · have e : ¬ (pre.any (covers f.2) || decide (f.1 = 3) && pre.any (covers (f.2 + 1))) = true := by
        simp only [Bool.or_eq_true, Bool.and_eq_true, decide_eq_true_eq]; exact hb
      rw [if_neg hb, if_neg e]
theorem FRow.cut {w : World} {b off n cap : Nat} {l : List Flt} (h : FRow w (.slice (some ⟨b, off, none⟩) n cap) l) (k : Nat) (hk : k ≤ l.length) (hk0 : 0 < l.length) : FRow w (.slice (some ⟨b, off, none⟩) k cap) (l.take k) := by
  rcases h with ⟨a, c, e, rfl⟩ | ⟨b', off', c, e, hb, hc⟩
  · simp at hk0
  · cases e
    refine .inr ⟨b, off, cap, by rw [List.length_take]; congr 1; omega, hb, fun i hi => ?_⟩
    rw [List.length_take] at hi
    have := hc i (by omega)
    have e2 : (l.take k).getD i (0, 0) = l.getD i (0, 0) := by
      rw [List.getD_eq_getElem?_getD, List.getD_eq_getElem?_getD, List.getElem?_take_of_lt (by omega)]
    rw [e2]; exact this
end Go.Proofs.YtgcaldceiogkaaaDoor

/-! The reference's Can. -/
namespace Go.Proofs.YtgcaldceiogkaaaDoor
open Go.RowKit Go.Shelf

theorem rtouched_quiet (v : Value) (l : List Flt) (p : Int) (w : World) (hv : FRow w v l) (hl : l.length ≤ 1000000) (hp0 : 0 ≤ p) (hp1 : p ≤ 1000) :
    Calls Tryd.prog 59 #[v, .int .i64 p] w fun e w' => e = .returned (.int .i64 (touchR l p)) ∧ w' = w := (rtouched_any v l p w hv hl hp0 hp1).mono fun _ _ ⟨a, b⟩ => ⟨a, b.symm⟩

set_option maxRecDepth 100000 in
set_option maxHeartbeats 2000000 in
theorem rcan_any (s : ByteArray) (v : Value) (l : List Flt) (w : World) (hs : s.size ≤ 100) (hv : FRow w v l) (hl : l.length ≤ 1000000) (hcap : ∀ a n c, v = .slice a n c → n ≤ c) :
    Calls Tryd.prog 33 #[.string s, v] w fun e w' => e = .returned (.int .i64 (canE s.size l)) ∧ Below w.heap.size w w' := by
  have HV0 := Lib.hid hv
  obtain ⟨a, cap, rfl, hc⟩ := hv.form
  have hcp : l.length ≤ cap := hcap _ _ _ rfl
  have HC := Lib.hid hc
  clear hc hv hcap
  go_enter Tryd.func33, Tryd.ntmps33
  go_wp2_with fail
  go_loopw [5] (fun i wr => ∃ k : Nat, k ≤ l.length ∧ i = .int .i64 k ∧ Hid (∀ j (h : j < l.length), j < k → errF s.size (l.take j) l[j] = 0) ∧ Hid (Below w.heap.size w wr)) (fun i _ => l.length - (intOf i).toNat)
  case atStart => exact ⟨0, Nat.zero_le _, rfl, Lib.hid (fun j _ hj => by omega), Lib.hid (Below.refl _ _)⟩
  case round =>
    obtain ⟨k, hk, rfl, hok, hB⟩ := hrel
    by_cases hlt : k < l.length
    · obtain ⟨b, off, rfl, hbw, hc0, hc1⟩ := HC.out k hlt
      have hlti : (k : Int) < l.length := by omega
      have hki : (k : Int) ≤ cap := by omega
      have eg : l.getD k (0, 0) = l[k] := by rw [List.getD_eq_getElem?_getD, List.getElem?_eq_getElem hlt]; rfl
      rw [eg] at hc0 hc1
      obtain ⟨kd, ekd⟩ : ∃ kd, l[k].1 = kd := ⟨_, rfl⟩
      obtain ⟨ad, ead⟩ : ∃ ad, l[k].2 = ad := ⟨_, rfl⟩
      rw [ekd] at hc0
      rw [ead] at hc1
      have hd0 : wr.cell? ⟨b, off + k * 2, none⟩ = some (.int .i64 kd) := (hB.out.cell (p := ⟨b, _, none⟩) hbw).trans hc0
      have hd1 : wr.cell? ⟨b, off + k * 2 + 1, none⟩ = some (.int .i64 ad) := (hB.out.cell (p := ⟨b, _, none⟩) hbw).trans hc1
      have herr : errF s.size (l.take k) l[k] = if argB s.size (kd, ad) then 1 else if (l.take k).any (covers ad) || decide (kd = 3) && (l.take k).any (covers (ad + 1)) then 6 else 0 := by
        rw [errF_alt, show l[k] = (kd, ad) from by rw [← ekd, ← ead]]
      have HE := Lib.hid herr
      have HCE : Hid (errF s.size (l.take k) l[k] ≠ 0 → canE s.size l = errF s.size (l.take k) l[k]) := Lib.hid (fun h => canE_err _ l k hlt (fun j hj => hok.out j (by omega) hj) h)
      have HFR := Lib.hid (((HV0.out.keep hB.out).cut k hk (by omega)))
      have hkl : (l.take k).length ≤ 1000000 := by rw [List.length_take]; omega
      have HKL := Lib.hid hkl
      clear hc0 hc1 eg ekd ead herr hkl
      by_cases c1 : kd < 1
      · have HR : Hid (canE s.size l = 1) := Lib.hid (by
          have hb : argB s.size (kd, ad) = true := by unfold argB; simp; omega
          have := HE.out
          rw [hb, if_pos rfl] at this
          rw [HCE.out (by rw [this]; decide), this])
        have hx1 : decide (kd < 1) = true := decide_eq_true c1
        clear c1
        go_wp2_with fail
        go_ret
        exact ⟨ret_int HR.out.symm, hB.out.alloc hB.out.size _⟩
      by_cases c2 : 3 < kd
      · have HR : Hid (canE s.size l = 1) := Lib.hid (by
          have hb : argB s.size (kd, ad) = true := by unfold argB; simp; omega
          have := HE.out
          rw [hb, if_pos rfl] at this
          rw [HCE.out (by rw [this]; decide), this])
        have hx1 : decide (kd < 1) = false := decide_eq_false c1
        have hx2 : decide (3 < kd) = true := decide_eq_true c2
        clear c1 c2
        go_wp2_with fail
        go_ret
        exact ⟨ret_int HR.out.symm, hB.out.alloc hB.out.size _⟩
      by_cases c3 : ad < 0
      · have HR : Hid (canE s.size l = 1) := Lib.hid (by
          have hb : argB s.size (kd, ad) = true := by unfold argB; simp; omega
          have := HE.out
          rw [hb, if_pos rfl] at this
          rw [HCE.out (by rw [this]; decide), this])
        have hx1 : decide (kd < 1) = false := decide_eq_false c1
        have hx2 : decide (3 < kd) = false := decide_eq_false c2
        have hx3 : decide (ad < 0) = true := decide_eq_true c3
        clear c1 c2 c3
        go_wp2_with fail
        go_ret
        exact ⟨ret_int HR.out.symm, hB.out.alloc hB.out.size _⟩
      by_cases c4 : (s.size : Int) ≤ ad
      · have HR : Hid (canE s.size l = 1) := Lib.hid (by
          have hb : argB s.size (kd, ad) = true := by unfold argB; simp; omega
          have := HE.out
          rw [hb, if_pos rfl] at this
          rw [HCE.out (by rw [this]; decide), this])
        have hx1 : decide (kd < 1) = false := decide_eq_false c1
        have hx2 : decide (3 < kd) = false := decide_eq_false c2
        have hx3 : decide (ad < 0) = false := decide_eq_false c3
        have hx4 : decide ((s.size : Int) ≤ ad) = true := decide_eq_true c4
        clear c1 c2 c3 c4
        go_wp2_with fail
        go_ret
        exact ⟨ret_int HR.out.symm, hB.out.alloc hB.out.size _⟩
      by_cases c5 : kd = 3
      · by_cases c6 : (s.size : Int) - 1 ≤ ad
        · have HR : Hid (canE s.size l = 1) := Lib.hid (by
            have hb : argB s.size (kd, ad) = true := by unfold argB; simp; omega
            have := HE.out
            rw [hb, if_pos rfl] at this
            rw [HCE.out (by rw [this]; decide), this])
          have hx1 : decide (kd < 1) = false := decide_eq_false c1
          have hx2 : decide (3 < kd) = false := decide_eq_false c2
          have hx3 : decide (ad < 0) = false := decide_eq_false c3
          have hx4 : decide ((s.size : Int) ≤ ad) = false := decide_eq_false c4
          have hx5 : (kd == 3) = true := by simpa using c5
          have hx6 : decide ((s.size : Int) - 1 ≤ ad) = true := decide_eq_true c6
          clear c1 c2 c3 c4 c5 c6
          go_wp2_with fail
          go_ret
          exact ⟨ret_int HR.out.symm, hB.out.alloc hB.out.size _⟩
        · have hnb : argB s.size (kd, ad) = false := by unfold argB; simp; omega
          have HE2 : Hid (errF s.size (l.take k) l[k] = if (l.take k).any (covers ad) || decide (kd = 3) && (l.take k).any (covers (ad + 1)) then 6 else 0) := Lib.hid (by rw [HE.out, hnb]; rfl)
          have hx1 : decide (kd < 1) = false := decide_eq_false (by omega)
          have hx2 : decide (3 < kd) = false := decide_eq_false (by omega)
          have hx3 : decide (ad < 0) = false := decide_eq_false (by omega)
          have hx4 : decide ((s.size : Int) ≤ ad) = false := decide_eq_false (by omega)
          have ht1 := touch_any (l.take k) ad
          have ht2 := touch_any (l.take k) (ad + 1)
          obtain ⟨m1, em1⟩ : ∃ m1, touchR (l.take k) ad = m1 := ⟨_, rfl⟩
          obtain ⟨m2, em2⟩ : ∃ m2, touchR (l.take k) (ad + 1) = m2 := ⟨_, rfl⟩
          rw [em1] at ht1
          rw [em2] at ht2
          have HT : Hid (∀ X, Below wr.heap.size wr X → Calls Tryd.prog 59 #[.slice (some ⟨b, off, none⟩) k cap, .int .i64 ad] X fun e w' => e = .returned (.int .i64 m1) ∧ w' = X) := Lib.hid (fun X hX => by
            have := rtouched_quiet _ (l.take k) ad X (HFR.out.keep hX) HKL.out (by omega) (by omega)
            rwa [em1] at this)
          have HT2 : Hid (∀ X, Below wr.heap.size wr X → Calls Tryd.prog 59 #[.slice (some ⟨b, off, none⟩) k cap, .int .i64 (ad + 1)] X fun e w' => e = .returned (.int .i64 m2) ∧ w' = X) := Lib.hid (fun X hX => by
            have := rtouched_quiet _ (l.take k) (ad + 1) X (HFR.out.keep hX) HKL.out (by omega) (by omega)
            rwa [em2] at this)
          clear hnb em1 em2
          have hx5 : (kd == 3) = true := by simpa using c5
          have hx6 : decide ((s.size : Int) - 1 ≤ ad) = false := decide_eq_false c6
          have WK : Hid (IntKind.i64.wrap (ad + 1) = ad + 1) := Lib.hid (IntWalk.i64_in _ (by omega))
          cases hA : (l.take k).any (covers ad)
          · have hy1 : decide (0 < (m1 : Int)) = false := ht1.trans hA
            have hy2 : ¬ 0 < m1 := by have := of_decide_eq_false hy1; omega
            cases hA2 : (l.take k).any (covers (ad + 1))
            · have HN : Hid (∀ j (h : j < l.length), j < k + 1 → errF s.size (l.take j) l[j] = 0) := Lib.hid (fun j h hj => by
                by_cases e : j = k
                · subst e; rw [HE2.out, hA, hA2, Bool.and_false]; rfl
                · exact hok.out j h (by omega))
              have hy3 : decide (0 < (m2 : Int)) = false := ht2.trans hA2
              have hy4 : ¬ 0 < m2 := by have := of_decide_eq_false hy3; omega
              clear c1 c2 c3 c4 c5 c6 hA hA2 ht1 ht2
              go_wp2_with fail
              have wk := WK.out
              go_quiet ((first | (go_at_call 59; with_reducible refine Calls.quiet_of_same (HT.out _ ?_); repeat (first | exact Below.refl _ _ | exact (Below.refl _ _).alloc (Nat.le_refl _) _ | apply below_drewN)) | (go_at_call 59; with_reducible refine Calls.quiet_of_same (HT2.out _ ?_); repeat (first | exact Below.refl _ _ | exact (Below.refl _ _).alloc (Nat.le_refl _) _ | apply below_drewN))))
              clear wk
              go_wp2_with fail
              go_roundw
              case rel => exact ⟨k + 1, by omega, by go_num, HN, Lib.hid (below_drewN (hB.out.alloc hB.out.size _) _)⟩
              case measure => simp [intOf]; omega
            · have HR : Hid (canE s.size l = 6) := Lib.hid (by
                have := HE2.out
                rw [hA, hA2, decide_eq_true c5, Bool.false_or, Bool.true_and, if_pos rfl] at this
                rw [HCE.out (by rw [this]; decide), this])
              have hy3 : decide (0 < (m2 : Int)) = true := ht2.trans hA2
              have hy4 : 0 < m2 := by have := of_decide_eq_true hy3; omega
              clear c1 c2 c3 c4 c5 c6 hA hA2 ht1 ht2
              go_wp2_with fail
              have wk := WK.out
              go_quiet ((first | (go_at_call 59; with_reducible refine Calls.quiet_of_same (HT.out _ ?_); repeat (first | exact Below.refl _ _ | exact (Below.refl _ _).alloc (Nat.le_refl _) _ | apply below_drewN)) | (go_at_call 59; with_reducible refine Calls.quiet_of_same (HT2.out _ ?_); repeat (first | exact Below.refl _ _ | exact (Below.refl _ _).alloc (Nat.le_refl _) _ | apply below_drewN))))
              clear wk
              go_wp2_with fail
              go_ret
              exact ⟨ret_int HR.out.symm, below_drewN (hB.out.alloc hB.out.size _) _⟩
          · have HR : Hid (canE s.size l = 6) := Lib.hid (by
              have := HE2.out
              rw [hA, Bool.true_or, if_pos rfl] at this
              rw [HCE.out (by rw [this]; decide), this])
            have hy1 : decide (0 < (m1 : Int)) = true := ht1.trans hA
            have hy2 : 0 < m1 := by have := of_decide_eq_true hy1; omega
            clear c1 c2 c3 c4 c5 c6 hA ht1 ht2
            go_wp2_with fail
            have wk := WK.out
            go_quiet ((first | (go_at_call 59; with_reducible refine Calls.quiet_of_same (HT.out _ ?_); repeat (first | exact Below.refl _ _ | exact (Below.refl _ _).alloc (Nat.le_refl _) _ | apply below_drewN)) | (go_at_call 59; with_reducible refine Calls.quiet_of_same (HT2.out _ ?_); repeat (first | exact Below.refl _ _ | exact (Below.refl _ _).alloc (Nat.le_refl _) _ | apply below_drewN))))
            clear wk
            go_wp2_with fail
            go_ret
            exact ⟨ret_int HR.out.symm, below_drewN (hB.out.alloc hB.out.size _) _⟩
      · have hnb : argB s.size (kd, ad) = false := by unfold argB; simp; omega
        have HE2 : Hid (errF s.size (l.take k) l[k] = if (l.take k).any (covers ad) || decide (kd = 3) && (l.take k).any (covers (ad + 1)) then 6 else 0) := Lib.hid (by rw [HE.out, hnb]; rfl)
        have hx1 : decide (kd < 1) = false := decide_eq_false (by omega)
        have hx2 : decide (3 < kd) = false := decide_eq_false (by omega)
        have hx3 : decide (ad < 0) = false := decide_eq_false (by omega)
        have hx4 : decide ((s.size : Int) ≤ ad) = false := decide_eq_false (by omega)
        have ht1 := touch_any (l.take k) ad
        have ht2 := touch_any (l.take k) (ad + 1)
        obtain ⟨m1, em1⟩ : ∃ m1, touchR (l.take k) ad = m1 := ⟨_, rfl⟩
        obtain ⟨m2, em2⟩ : ∃ m2, touchR (l.take k) (ad + 1) = m2 := ⟨_, rfl⟩
        rw [em1] at ht1
        rw [em2] at ht2
        have HT : Hid (∀ X, Below wr.heap.size wr X → Calls Tryd.prog 59 #[.slice (some ⟨b, off, none⟩) k cap, .int .i64 ad] X fun e w' => e = .returned (.int .i64 m1) ∧ w' = X) := Lib.hid (fun X hX => by
          have := rtouched_quiet _ (l.take k) ad X (HFR.out.keep hX) HKL.out (by omega) (by omega)
          rwa [em1] at this)
        have HT2 : Hid (∀ X, Below wr.heap.size wr X → Calls Tryd.prog 59 #[.slice (some ⟨b, off, none⟩) k cap, .int .i64 (ad + 1)] X fun e w' => e = .returned (.int .i64 m2) ∧ w' = X) := Lib.hid (fun X hX => by
          have := rtouched_quiet _ (l.take k) (ad + 1) X (HFR.out.keep hX) HKL.out (by omega) (by omega)
          rwa [em2] at this)
        clear hnb em1 em2
        have hx5 : (kd == 3) = false := by simpa using c5
        cases hA : (l.take k).any (covers ad)
        · have HN : Hid (∀ j (h : j < l.length), j < k + 1 → errF s.size (l.take j) l[j] = 0) := Lib.hid (fun j h hj => by
            by_cases e : j = k
            · subst e; rw [HE2.out, hA, decide_eq_false c5]; rfl
            · exact hok.out j h (by omega))
          have hy1 : decide (0 < (m1 : Int)) = false := ht1.trans hA
          have hy2 : ¬ 0 < m1 := by have := of_decide_eq_false hy1; omega
          clear c1 c2 c3 c4 c5 hA ht1 ht2
          go_wp2_with fail
          go_quiet ((go_at_call 59; exact Calls.quiet_of_same (HT.out _ (by repeat (first | exact Below.refl _ _ | exact (Below.refl _ _).alloc (Nat.le_refl _) _ | apply below_drewN)))))
          go_wp2_with fail
          go_roundw
          case rel => exact ⟨k + 1, by omega, by go_num, HN, Lib.hid (below_drewN (hB.out.alloc hB.out.size _) _)⟩
          case measure => simp [intOf]; omega
        · have HR : Hid (canE s.size l = 6) := Lib.hid (by
            have := HE2.out
            rw [hA, Bool.true_or, if_pos rfl] at this
            rw [HCE.out (by rw [this]; decide), this])
          have hy1 : decide (0 < (m1 : Int)) = true := ht1.trans hA
          have hy2 : 0 < m1 := by have := of_decide_eq_true hy1; omega
          clear c1 c2 c3 c4 c5 hA ht1 ht2
          go_wp2_with fail
          go_quiet ((go_at_call 59; exact Calls.quiet_of_same (HT.out _ (by repeat (first | exact Below.refl _ _ | exact (Below.refl _ _).alloc (Nat.le_refl _) _ | apply below_drewN)))))
          go_wp2_with fail
          go_ret
          exact ⟨ret_int HR.out.symm, below_drewN (hB.out.alloc hB.out.size _) _⟩
    · obtain rfl : k = l.length := by omega
      have HK : Hid (canE s.size l = 0) := Lib.hid (canE_ok _ l (fun j hj => hok.out j hj hj))
      go_wp2_with fail
      go_ret
      exact ⟨ret_int HK.out.symm, hB.out⟩
end Go.Proofs.YtgcaldceiogkaaaDoor
