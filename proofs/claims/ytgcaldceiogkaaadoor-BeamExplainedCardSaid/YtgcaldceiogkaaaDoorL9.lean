/- The walk of BeamFewest. -/
import Derived.Test.YtgcaldceiogkaaaDoorG0
import Derived.Test.YtgcaldceiogkaaaDoorV2
import Derived.Test.YtgcaldceiogkaaaDoorV5
namespace Go.Proofs.YtgcaldceiogkaaaDoor
open Go.RowKit Go.Shelf

theorem ck_whole {s r : List UInt8} {l : List Flt} (hE : bothE s r = 0) (h : Pre s r s.length r.length l) : ckE s r l = 0 := by
  obtain ⟨h1, h2, _⟩ := h.whole
  have hf : flashE s 100 = 0 := by unfold bothE orI at hE; split at hE <;> first | assumption | contradiction
  have : faultedE s l = 0 := by unfold faultedE; rw [if_pos hf]; exact h1
  unfold ckE; rw [if_pos hE, if_pos this, if_pos h2]
theorem asc_at {l : List Flt} (h : l.Pairwise (fun f g => f.2 < g.2)) (k : Nat) (hk : k + 1 < l.length) : (l.getD k (0, 0)).2 < (l.getD (k + 1) (0, 0)).2 := by
  rw [List.getD_eq_getElem?_getD, List.getD_eq_getElem?_getD, List.getElem?_eq_getElem (by omega), List.getElem?_eq_getElem hk]
  exact List.pairwise_iff_getElem.1 h k (k + 1) (by omega) hk (by omega)

set_option maxRecDepth 100000 in
set_option maxHeartbeats 4000000 in
theorem fewest_law (sb rb : ByteArray) (W : World) (hG : Glob W) (ms : sb.size ≤ maxLen) (mr : rb.size ≤ maxLen) :
    Calls Tryd.prog 4 #[.string sb, .string rb] W fun e w' => e = .returned (.bool true) ∧ Below W.heap.size W w' := by
  obtain ⟨s, rfl⟩ : ∃ s, sb = B s := ⟨_, (B_L sb).symm⟩
  obtain ⟨r, rfl⟩ : ∃ r, rb = B r := ⟨_, (B_L rb).symm⟩
  have HG := Lib.hid hG
  have MS := Lib.hid ms
  have MR := Lib.hid mr
  have MSL : Hid (s.length ≤ maxLen) := Lib.hid (by rwa [size_B] at ms)
  have MRL : Hid (r.length ≤ maxLen) := Lib.hid (by rwa [size_B] at mr)
  clear hG ms mr
  by_cases h1 : 200 < s.length
  · have g1 : (200 : Int) < s.length := by omega
    go_enter Tryd.func4, Tryd.ntmps4
    go_wp2_with fail
    refine (head_any _ HG.out).mono ?_
    rintro e v1 ⟨rfl, hb⟩
    have HB := Lib.hid hb
    clear hb
    go_wp2_with fail
    go_ret
    exact ⟨rfl, HB.out⟩
  have g1 : ¬ (200 : Int) < s.length := by omega
  by_cases h2 : 200 < r.length
  · have g2 : (200 : Int) < r.length := by omega
    go_enter Tryd.func4, Tryd.ntmps4
    go_wp2_with fail
    refine (head_any _ HG.out).mono ?_
    rintro e v1 ⟨rfl, hb⟩
    have HB := Lib.hid hb
    clear hb
    go_wp2_with fail
    go_ret
    exact ⟨rfl, HB.out⟩
  have g2 : ¬ (200 : Int) < r.length := by omega
  by_cases hE : bothE s r = 0
  · have HE := Lib.hid hE
    by_cases hd : dT s r s.length r.length ≤ s.length
    · have HD := Lib.hid hd
      obtain ⟨t, et⟩ : ∃ t, dT s r s.length r.length = t := ⟨_, rfl⟩
      have ET := Lib.hid et
      have hfe : fewE s r = .tuple #[.int .i64 t, .bool true, .int .i64 0] := by
        unfold fewE; rw [if_pos hE]
        show (if dT s r s.length r.length ≤ _ then Value.tuple #[.int .i64 (dT s r s.length r.length), _, _] else _) = _
        rw [if_pos hd, et]
      have HF : Hid (fewE (B s).data.toList (B r).data.toList = .tuple #[.int .i64 t, .bool true, .int .i64 0]) := Lib.hid (by rw [L_B, L_B]; exact hfe)
      have HF2 := Lib.hid hfe
      clear hE hd et hfe
      go_enter Tryd.func4, Tryd.ntmps4
      go_wp2_with fail
      refine (head_any _ HG.out).mono ?_
      rintro e v1 ⟨rfl, hb⟩
      have HB := Lib.hid hb
      clear hb
      go_wp2_with fail
      refine (Fewest_any _ _ _ MS.out MR.out (HG.out.below HB.out).parts).mono ?_
      rintro e v2 ⟨rfl, hb⟩
      rw [HF.out]
      have HB2 := Lib.hid (HB.out.trans (hb.mono HB.out.size))
      clear hb
      go_wp2_with fail
      refine (rFewest_any s r _ MSL.out MRL.out).mono ?_
      rintro e v3 ⟨rfl, hb⟩
      rw [HF2.out]
      have HB3 := Lib.hid (HB2.out.trans (hb.mono HB2.out.size))
      clear hb
      go_wp2_with fail
      refine (Explain_ok s r _ HE.out (HG.out.below HB3.out).parts).mono ?_
      rintro e v4 ⟨hb, hx⟩
      have HB4 := Lib.hid (HB3.out.trans (hb.mono HB3.out.size))
      clear hb
      rcases hx with ⟨hn, _⟩ | ⟨_, v, l, rfl, hv, hp, hl, hcap⟩
      · exact absurd HD.out hn
      rw [ET.out] at hl
      have hlt : ((l.length : Int) == t) = true := by simpa using hl
      have HV := Lib.hid hv
      have HCP := Lib.hid hcap
      have HASC := Lib.hid hp.whole.2.2
      have HCK := Lib.hid (ck_whole HE.out hp)
      have hlb := hp.bd.2.2.2
      obtain ⟨a, cap, rfl, hcells⟩ := hv.form
      have HCL := Lib.hid hcells
      clear hv hcap hp hl hcells
      go_wp2_with fail
      go_loopw [14] (fun i wr => ∃ k : Nat, i = .int .i64 ((k : Int) + 1) ∧ (k = 0 ∨ k + 1 ≤ l.length) ∧ Hid (Below v4.heap.size v4 wr)) (fun i _ => l.length - (intOf i).toNat)
      case atStart => exact ⟨0, by simp, .inl rfl, Lib.hid (Below.refl _ _)⟩
      case round =>
        obtain ⟨k, rfl, hk, hBr⟩ := hrel
        by_cases hlt2 : k + 1 < l.length
        · obtain ⟨b, off, rfl, hbw, _, c1⟩ := HCL.out (k + 1) hlt2
          obtain ⟨b', off', hbo, _, _, c0⟩ := HCL.out k (by omega)
          cases hbo
          have c1' := (hBr.out.cell (p := ⟨b, _, none⟩) hbw).trans c1
          have c0' := (hBr.out.cell (p := ⟨b, _, none⟩) hbw).trans c0
          have hasc := asc_at HASC.out k hlt2
          obtain ⟨x, ex⟩ : ∃ x, (l.getD k (0, 0)).2 = x := ⟨_, rfl⟩
          obtain ⟨y, ey⟩ : ∃ y, (l.getD (k + 1) (0, 0)).2 = y := ⟨_, rfl⟩
          rw [ex] at c0' hasc
          rw [ey] at c1' hasc
          have hq : decide (y ≤ x) = false := decide_eq_false (by omega)
          have hki : (k : Int) + 1 < l.length := by omega
          have hk0 : (0 : Int) ≤ k := by omega
          have hkl : (k : Int) < l.length := by omega
          have hk1 : (0 : Int) ≤ (k : Int) + 1 := by omega
          have HW := Lib.hid (IntWalk.i64_in (k : Int) (by omega))
          have HW2 : Hid (IntKind.i64.wrap ((k : Int) + 1 - 1) = k) := Lib.hid (by rw [IntWalk.i64_in _ (by omega)]; omega)
          clear c0 c1 ex ey hasc hk
          go_wp2_with fail
          have hw1 := HW.out
          have hw2 := HW2.out
          go_quiet (fail)
          clear hw1 hw2
          go_wp2_with fail
          go_roundw
          case rel => exact ⟨k + 1, by go_num, .inr (by omega), Lib.hid (below_drewN hBr.out _)⟩
          case measure => simp [intOf]; omega
        · have HB5 := Lib.hid (HB4.out.trans (hBr.out.mono HB4.out.size))
          have HV5 := Lib.hid (HV.out.keep hBr.out)
          have hge : (l.length : Int) ≤ (k : Int) + 1 := by omega
          clear hBr hk
          go_wp2_with fail
          refine (rCheckFaults_any s r _ l _ MSL.out MRL.out HV5.out (by omega) HCP.out).mono ?_
          rintro e v6 ⟨rfl, hb⟩
          rw [HCK.out]
          have HB6 := Lib.hid (HB5.out.trans (hb.mono HB5.out.size))
          clear hb
          go_wp2_with fail
          go_ret
          exact ⟨rfl, HB6.out⟩
    · have HD := Lib.hid hd
      have hfe : fewE s r = .tuple #[.int .i64 0, .bool false, .int .i64 0] := by
        unfold fewE; rw [if_pos hE]
        show (if dT s r s.length r.length ≤ _ then _ else _) = _
        rw [if_neg hd]
      have HF : Hid (fewE (B s).data.toList (B r).data.toList = .tuple #[.int .i64 0, .bool false, .int .i64 0]) := Lib.hid (by rw [L_B, L_B]; exact hfe)
      have HF2 := Lib.hid hfe
      clear hE hd hfe
      go_enter Tryd.func4, Tryd.ntmps4
      go_wp2_with fail
      refine (head_any _ HG.out).mono ?_
      rintro e v1 ⟨rfl, hb⟩
      have HB := Lib.hid hb
      clear hb
      go_wp2_with fail
      refine (Fewest_any _ _ _ MS.out MR.out (HG.out.below HB.out).parts).mono ?_
      rintro e v2 ⟨rfl, hb⟩
      rw [HF.out]
      have HB2 := Lib.hid (HB.out.trans (hb.mono HB.out.size))
      clear hb
      go_wp2_with fail
      refine (rFewest_any s r _ MSL.out MRL.out).mono ?_
      rintro e v3 ⟨rfl, hb⟩
      rw [HF2.out]
      have HB3 := Lib.hid (HB2.out.trans (hb.mono HB2.out.size))
      clear hb
      go_wp2_with fail
      refine (Explain_ok s r _ HE.out (HG.out.below HB3.out).parts).mono ?_
      rintro e v4 ⟨hb, hx⟩
      have HB4 := Lib.hid (HB3.out.trans (hb.mono HB3.out.size))
      clear hb
      rcases hx with ⟨_, rfl⟩ | ⟨hn, _⟩
      · go_wp2_with fail
        go_ret
        exact ⟨rfl, HB4.out⟩
      · exfalso; have := HD.out; omega
  · have HE := Lib.hid hE
    obtain ⟨q, eq⟩ : ∃ q, bothE s r = q := ⟨_, rfl⟩
    have HQ := Lib.hid eq
    have hq0 : (q != 0) = true := by rw [← eq]; simpa using hE
    have hfe : fewE s r = .tuple #[.int .i64 0, .bool false, .int .i64 q] := by
      unfold fewE; rw [if_neg hE, eq]
    have HF : Hid (fewE (B s).data.toList (B r).data.toList = .tuple #[.int .i64 0, .bool false, .int .i64 q]) := Lib.hid (by rw [L_B, L_B]; exact hfe)
    have HF2 := Lib.hid hfe
    clear hE eq hfe
    go_enter Tryd.func4, Tryd.ntmps4
    go_wp2_with fail
    refine (head_any _ HG.out).mono ?_
    rintro e v1 ⟨rfl, hb⟩
    have HB := Lib.hid hb
    clear hb
    go_wp2_with fail
    refine (Fewest_any _ _ _ MS.out MR.out (HG.out.below HB.out).parts).mono ?_
    rintro e v2 ⟨rfl, hb⟩
    rw [HF.out]
    have HB2 := Lib.hid (HB.out.trans (hb.mono HB.out.size))
    clear hb
    go_wp2_with fail
    refine (rFewest_any s r _ MSL.out MRL.out).mono ?_
    rintro e v3 ⟨rfl, hb⟩
    rw [HF2.out]
    have HB3 := Lib.hid (HB2.out.trans (hb.mono HB2.out.size))
    clear hb
    go_wp2_with fail
    refine (Explain_err s r _ MSL.out MRL.out HE.out).mono ?_
    rintro e v4 ⟨rfl, hb⟩
    rw [HQ.out]
    have HB4 := Lib.hid (HB3.out.trans (hb.mono HB3.out.size))
    clear hb
    go_wp2_with fail
    go_ret
    exact ⟨rfl, HB4.out⟩
end Go.Proofs.YtgcaldceiogkaaaDoor
