/- The reference's received. -/
import Derived.Test.YtgcaldceiogkaaaDoorQ1
import Derived.Test.YtgcaldceiogkaaaDoorQ3
import Derived.Test.YtgcaldceiogkaaaDoorF0
namespace Go.Proofs.YtgcaldceiogkaaaDoor
open Go.RowKit Go.Shelf

theorem Bq_add (a b : List UInt8) : B (a ++ b) = B a ++ B b := by apply ext_L; simp
theorem scut_one (s : List UInt8) (k : Nat) (h : k < s.length) : cutL s k (k + 1) = [s.getD k 0] := by
  unfold cutL
  rw [show k + 1 - k = 1 by omega, List.drop_eq_getElem_cons h, List.getD_eq_getElem?_getD, List.getElem?_eq_getElem h]; rfl
theorem scut_run (s : List UInt8) (k : Nat) (h : k < s.length) (y z : Int) (hy : y = k) (hz : z = (k : Int) + 1) (W : World) :
    (Instr.slice 9 (.string (B s)) (some (.int .i64 y)) (some (.int .i64 z)) none).run Tryd.prog W = .ok (.string (B [s.getD k 0])) W := by
  have := sslice_run W s _ k (k + 1) (by omega) (by omega) (cutL_extract s k (k + 1) (by omega)) y z hy (by omega)
  rw [scut_one s k h] at this
  exact this

set_option maxRecDepth 100000 in
set_option maxHeartbeats 1000000 in
theorem rreceived_any (s : List UInt8) (v : Value) (l : List Flt) (w : World) (hs : s.length ≤ 100) (hv : FRow w v l) (hl : l.length ≤ 1000000) (hc : canE s.length l = 0) :
    Calls Tryd.prog 34 #[.string (B s), v] w fun e w' => e = .returned (.string (B (faultedL s l))) ∧ Below w.heap.size w w' := by
  have HV := Lib.hid hv
  have HC := Lib.hid hc
  clear hv hc
  go_enter Tryd.func34, Tryd.ntmps34
  go_wp2_with fail
  go_loopw [5, 6] (fun o i wr => ∃ k : Nat, k ≤ s.length ∧ i = .int .i64 k ∧ o = .string (B (faultedK s l k)) ∧ Hid (ns l k) ∧ Hid (Below w.heap.size w wr)) (fun _ i _ => s.length - (intOf i).toNat)
  case atStart => exact ⟨0, Nat.zero_le _, rfl, rfl, Lib.hid (ns_start HC.out), Lib.hid (Below.refl _ _)⟩
  case round =>
    obtain ⟨k, hk, rfl, rfl, hN, hB⟩ := hrel
    have hfl := faultedK_length s l k
    by_cases hlt : k < s.length
    · have hlti : (k : Int) < s.length := by omega
      have hkc := kind_cases HC.out (k : Int) hN.out
      have hcut := fun W => scut_run s k hlt (k : Int) ((k : Int) + 1) rfl rfl W
      obtain ⟨c, ec⟩ : ∃ c, s.getD k 0 = c := ⟨_, rfl⟩
      rw [ec] at hcut
      obtain ⟨pk, ep⟩ : ∃ pk, faultedK s l k = pk := ⟨_, rfl⟩
      have hpl : pk.length ≤ 2 * k := by rw [← ep]; exact hfl
      rw [ep]
      clear hfl
      rcases hkc with ⟨h1, h2⟩ | ⟨h1, h2⟩ | ⟨h1, h2⟩ | ⟨h1, h2, h3, h4, h5⟩
      · have HK := Lib.hid h1
        obtain ⟨e1, e2⟩ := step_none HC.out k h2
        rw [ep, ec] at e1
        have HE := Lib.hid e1
        have HN := Lib.hid e2
        have ha1 : ¬ 9223372036854775807 < pk.length + 1 := by omega
        clear h1 h2 e1 e2 ep ec
        go_wp2_with fail
        refine (rkind_any _ l k _ (HV.out.keep hB.out) hl).mono ?_
        rintro e w' ⟨rfl, rfl⟩
        rw [HK.out]
        go_wp2_with fail
        go_roundw
        case rel => exact ⟨k + 1, by omega, by go_num, by rw [HE.out, Bq_add], HN, hB⟩
        case measure => simp [intOf]; omega
      · have HK := Lib.hid h1
        obtain ⟨e1, e2⟩ := step_lost HC.out k h2
        rw [ep] at e1
        have HE := Lib.hid e1
        have HN := Lib.hid e2
        clear h1 h2 e1 e2 ep ec hcut
        go_wp2_with fail
        refine (rkind_any _ l k _ (HV.out.keep hB.out) hl).mono ?_
        rintro e w' ⟨rfl, rfl⟩
        rw [HK.out]
        go_wp2_with fail
        go_roundw
        case rel => exact ⟨k + 1, by omega, by go_num, by rw [HE.out], HN, hB⟩
        case measure => simp [intOf]; omega
      · have HK := Lib.hid h1
        obtain ⟨e1, e2⟩ := step_twice HC.out k h2
        rw [ep, ec] at e1
        have HE := Lib.hid e1
        have HN := Lib.hid e2
        have ha1 : ¬ 9223372036854775807 < pk.length + 1 := by omega
        have ha2 : ¬ 9223372036854775807 < pk.length + 1 + 1 := by omega
        have hwr := Lib.hid (IntWalk.i64_in ((k : Int) + 1) (by omega))
        clear h1 h2 e1 e2 ep ec
        go_wp2_with fail
        refine (rkind_any _ l k _ (HV.out.keep hB.out) hl).mono ?_
        rintro e w' ⟨rfl, rfl⟩
        rw [HK.out]
        go_wp2_with fail
        have hwo := hwr.out
        go_quiet (fail)
        clear hwo
        go_wp2_with fail
        go_roundw
        case rel => exact ⟨k + 1, by omega, by go_num, by rw [HE.out, Bq_add, Bq_add], HN, Lib.hid (below_drewN hB.out _)⟩
        case measure => simp [intOf]; omega
      · have HK := Lib.hid h1
        obtain ⟨e1, e2⟩ := step_swap HC.out k h2 h3
        have hk2 : k + 1 < s.length := by omega
        have hcut2 := fun W => scut_run s (k + 1) hk2 ((k : Int) + 1) ((k : Int) + 2) (by omega) (by omega) W
        obtain ⟨d, ed⟩ : ∃ d, s.getD (k + 1) 0 = d := ⟨_, rfl⟩
        rw [ep, ec, ed] at e1
        rw [ed] at hcut2
        have HE := Lib.hid e1
        have HN := Lib.hid e2
        have ha1 : ¬ 9223372036854775807 < pk.length + 1 := by omega
        have ha2 : ¬ 9223372036854775807 < pk.length + 1 + 1 := by omega
        have hwr := Lib.hid (IntWalk.i64_in ((k : Int) + 1) (by omega))
        have hwr2 := Lib.hid (IntWalk.i64_in ((k : Int) + 2) (by omega))
        clear h1 h2 h3 h4 h5 e1 e2 ep ec ed
        go_wp2_with fail
        refine (rkind_any _ l k _ (HV.out.keep hB.out) hl).mono ?_
        rintro e w' ⟨rfl, rfl⟩
        rw [HK.out]
        go_wp2_with fail
        have hwo := hwr.out
        have hwo2 := hwr2.out
        go_quiet (fail)
        clear hwo hwo2
        go_wp2_with fail
        go_roundw
        case rel => exact ⟨k + 2, by omega, by go_num, by rw [HE.out, Bq_add, Bq_add], HN, Lib.hid (below_drewN hB.out _)⟩
        case measure => simp [intOf]; omega
    · obtain rfl : k = s.length := by omega
      go_wp2_with fail
      go_ret
      exact ⟨rfl, hB.out⟩
end Go.Proofs.YtgcaldceiogkaaaDoor

/-! The reference's two, Faulted and CheckFaults. -/
namespace Go.Proofs.YtgcaldceiogkaaaDoor
open Go.RowKit Go.Shelf

theorem rtwo_any (s r : ByteArray) (w : World) (hs : s.size ≤ maxLen) (hr : r.size ≤ maxLen) :
    Calls Tryd.prog 36 #[.string s, .string r] w fun e w' => e = .returned (.int .i64 (bothE s.data.toList r.data.toList)) ∧ w = w' := by
  by_cases hE : flashE s.data.toList 100 = 0
  · have HE := Lib.hid hE
    have HB : Hid (bothE s.data.toList r.data.toList = flashE r.data.toList 100) := Lib.hid (by unfold bothE orI; rw [if_pos hE])
    clear hE
    go_enter Tryd.func36, Tryd.ntmps36
    go_wp2_with fail
    refine (rflashes_any _ _ _ hs).mono ?_
    rintro e w' ⟨rfl, rfl⟩
    rw [HE.out]
    go_wp2_with fail
    refine (rflashes_any _ _ _ hr).mono ?_
    rintro e w' ⟨rfl, rfl⟩
    rw [← HB.out]
    go_wp2_with fail
    go_ret
    exact ⟨rfl, rfl⟩
  · have HB : Hid (flashE s.data.toList 100 = bothE s.data.toList r.data.toList) := Lib.hid (by unfold bothE orI; rw [if_neg hE])
    have hq : (bothE s.data.toList r.data.toList != 0) = true := by rw [← HB.out]; simpa using hE
    obtain ⟨q, eq⟩ : ∃ q, bothE s.data.toList r.data.toList = q := ⟨_, rfl⟩
    rw [eq] at hq HB ⊢
    clear hE eq
    go_enter Tryd.func36, Tryd.ntmps36
    go_wp2_with fail
    refine (rflashes_any _ _ _ hs).mono ?_
    rintro e w' ⟨rfl, rfl⟩
    rw [HB.out]
    go_wp2_with fail
    go_ret
    exact ⟨rfl, rfl⟩

theorem rfaulted_any (s : List UInt8) (v : Value) (l : List Flt) (w : World) (hs : s.length ≤ maxLen) (hv : FRow w v l) (hl : l.length ≤ 1000000) (hcap : ∀ a n c, v = .slice a n c → n ≤ c) :
    Calls Tryd.prog 12 #[.string (B s), v] w fun e w' => e = .returned (faultedV s l) ∧ Below w.heap.size w w' := by
  have hs' : (B s).size ≤ maxLen := by rw [size_B]; exact hs
  have HS := Lib.hid hs'
  have HV := Lib.hid hv
  have HCP := Lib.hid hcap
  clear hs' hv hcap
  by_cases hf : flashE s 100 = 0
  · have hs100 := flashE_le' hf
    have HF : Hid (flashE (B s).data.toList 100 = 0) := Lib.hid (by rw [L_B]; exact hf)
    have hsz : s.length ≤ 100 := by omega
    have hszb : (B s).size ≤ 100 := by rw [size_B]; exact hsz
    have HSZ := Lib.hid hszb
    by_cases hc : canE s.length l = 0
    · have HC := Lib.hid hc
      have HC2 : Hid (canE (B s).size l = 0) := Lib.hid (by rw [size_B]; exact hc)
      have HE : Hid (faultedV s l = .tuple #[.string (B (faultedL s l)), .int .i64 0]) := Lib.hid (by
        have : faultedE s l = 0 := by unfold faultedE; rw [if_pos hf]; exact hc
        unfold faultedV; rw [if_pos this])
      clear hf hc hszb hs100
      go_enter Tryd.func12, Tryd.ntmps12
      go_wp2_with fail
      refine (rflashes_any _ _ _ HS.out).mono ?_
      rintro e w' ⟨rfl, rfl⟩
      rw [HF.out]
      go_wp2_with fail
      refine (rcan_any _ _ l _ HSZ.out HV.out hl HCP.out).mono ?_
      rintro e w1 ⟨rfl, hb⟩
      rw [HC2.out]
      have HB := Lib.hid hb
      clear hb
      go_wp2_with fail
      refine (rreceived_any s _ l _ hsz (HV.out.keep HB.out) hl HC.out).mono ?_
      rintro e w2 ⟨rfl, hb⟩
      have HB2 := Lib.hid (HB.out.trans (hb.mono HB.out.size))
      clear hb
      go_wp2_with fail
      go_ret2
      exact ⟨ret_val HE.out.symm, HB2.out⟩
    · have HE : Hid (faultedV s l = .tuple #[.string ⟨#[]⟩, .int .i64 (canE (B s).size l)]) := Lib.hid (by
        have : faultedE s l = canE s.length l := by unfold faultedE; rw [if_pos hf]
        unfold faultedV; rw [if_neg (by rw [this]; exact hc), this, size_B])
      have hne : (canE (B s).size l != 0) = true := by rw [size_B]; simpa using hc
      obtain ⟨q, eq⟩ : ∃ q, canE (B s).size l = q := ⟨_, rfl⟩
      rw [eq] at hne HE
      have HQ := Lib.hid eq
      clear hf hc hszb hs100 eq
      go_enter Tryd.func12, Tryd.ntmps12
      go_wp2_with fail
      refine (rflashes_any _ _ _ HS.out).mono ?_
      rintro e w' ⟨rfl, rfl⟩
      rw [HF.out]
      go_wp2_with fail
      refine (rcan_any _ _ l _ HSZ.out HV.out hl HCP.out).mono ?_
      rintro e w1 ⟨rfl, hb⟩
      rw [HQ.out]
      have HB := Lib.hid hb
      clear hb
      go_wp2_with fail
      go_ret2
      exact ⟨ret_val HE.out.symm, HB.out⟩
  · have HE : Hid (faultedV s l = .tuple #[.string ⟨#[]⟩, .int .i64 (flashE (B s).data.toList 100)]) := Lib.hid (by
      have : faultedE s l = flashE s 100 := by unfold faultedE; rw [if_neg hf]
      unfold faultedV; rw [if_neg (by rw [this]; exact hf), this, L_B])
    have hne : (flashE (B s).data.toList 100 != 0) = true := by rw [L_B]; simpa using hf
    obtain ⟨q, eq⟩ : ∃ q, flashE (B s).data.toList 100 = q := ⟨_, rfl⟩
    rw [eq] at hne HE
    have HQ := Lib.hid eq
    clear hf eq
    go_enter Tryd.func12, Tryd.ntmps12
    go_wp2_with fail
    refine (rflashes_any _ _ _ HS.out).mono ?_
    rintro e w' ⟨rfl, rfl⟩
    rw [HQ.out]
    go_wp2_with fail
    go_ret2
    exact ⟨ret_val HE.out.symm, Below.refl _ _⟩

set_option maxRecDepth 100000 in
theorem rCheckFaults_any (s r : List UInt8) (v : Value) (l : List Flt) (w : World) (hs : s.length ≤ maxLen) (hr : r.length ≤ maxLen) (hv : FRow w v l) (hl : l.length ≤ 1000000) (hcap : ∀ a n c, v = .slice a n c → n ≤ c) :
    Calls Tryd.prog 14 #[.string (B s), .string (B r), v] w fun e w' => e = .returned (.int .i64 (ckE s r l)) ∧ Below w.heap.size w w' := by
  have hs' : (B s).size ≤ maxLen := by rw [size_B]; exact hs
  have hr' : (B r).size ≤ maxLen := by rw [size_B]; exact hr
  have HS := Lib.hid hs'
  have HR := Lib.hid hr'
  have HV := Lib.hid hv
  have HCP := Lib.hid hcap
  clear hs' hr' hv hcap
  by_cases hE : bothE s r = 0
  · have hle := (bothE_le hE).1
    have HE : Hid (bothE (B s).data.toList (B r).data.toList = 0) := Lib.hid (by rw [L_B, L_B]; exact hE)
    have hsz : s.length ≤ 100 := hle
    have hszb : (B s).size ≤ 100 := by rw [size_B]; exact hsz
    have HSZ := Lib.hid hszb
    have hfl : flashE s 100 = 0 := by unfold bothE orI at hE; split at hE <;> first | assumption | contradiction
    by_cases hc : canE s.length l = 0
    · have HC := Lib.hid hc
      have HC2 : Hid (canE (B s).size l = 0) := Lib.hid (by rw [size_B]; exact hc)
      have HK : Hid (ckE s r l = if faultedL s l = r then 0 else 8) := Lib.hid (by
        have : faultedE s l = 0 := by unfold faultedE; rw [if_pos hfl]; exact hc
        unfold ckE; rw [if_pos hE, if_pos this])
      obtain ⟨fl, ef⟩ : ∃ fl, faultedL s l = fl := ⟨_, rfl⟩
      have HF := Lib.hid ef
      rw [ef] at HK
      clear hE hc hle hszb hfl ef
      by_cases hx : fl = r
      · have HK2 := Lib.hid (HK.out.trans (if_pos hx))
        subst hx
        go_enter Tryd.func14, Tryd.ntmps14
        go_wp2_with fail
        refine (rtwo_any _ _ _ HS.out HR.out).mono ?_
        rintro e w' ⟨rfl, rfl⟩
        rw [HE.out]
        go_wp2_with fail
        refine (rcan_any _ _ l _ HSZ.out HV.out hl HCP.out).mono ?_
        rintro e w1 ⟨rfl, hb⟩
        rw [HC2.out]
        have HB := Lib.hid hb
        clear hb
        go_wp2_with fail
        refine (rreceived_any s _ l _ hsz (HV.out.keep HB.out) hl HC.out).mono ?_
        rintro e w2 ⟨rfl, hb⟩
        rw [HF.out]
        have HB2 := Lib.hid (HB.out.trans (hb.mono HB.out.size))
        clear hb
        go_wp2_with fail
        go_ret
        exact ⟨ret_int HK2.out.symm, HB2.out⟩
      · have HK2 := Lib.hid (HK.out.trans (if_neg hx))
        have hq : (fl == r) = false := by simpa using hx
        clear hx
        go_enter Tryd.func14, Tryd.ntmps14
        go_wp2_with fail
        refine (rtwo_any _ _ _ HS.out HR.out).mono ?_
        rintro e w' ⟨rfl, rfl⟩
        rw [HE.out]
        go_wp2_with fail
        refine (rcan_any _ _ l _ HSZ.out HV.out hl HCP.out).mono ?_
        rintro e w1 ⟨rfl, hb⟩
        rw [HC2.out]
        have HB := Lib.hid hb
        clear hb
        go_wp2_with fail
        refine (rreceived_any s _ l _ hsz (HV.out.keep HB.out) hl HC.out).mono ?_
        rintro e w2 ⟨rfl, hb⟩
        rw [HF.out]
        have HB2 := Lib.hid (HB.out.trans (hb.mono HB.out.size))
        clear hb
        go_wp2_with fail
        go_ret
        exact ⟨ret_int HK2.out.symm, HB2.out⟩
    · have HK : Hid (ckE s r l = canE (B s).size l) := Lib.hid (by
        have : faultedE s l = canE s.length l := by unfold faultedE; rw [if_pos hfl]
        unfold ckE; rw [if_pos hE, if_neg (by rw [this]; exact hc), this, size_B])
      have hne : (canE (B s).size l != 0) = true := by rw [size_B]; simpa using hc
      obtain ⟨q, eq⟩ : ∃ q, canE (B s).size l = q := ⟨_, rfl⟩
      rw [eq] at hne HK
      have HQ := Lib.hid eq
      clear hE hc hle hszb hfl eq
      go_enter Tryd.func14, Tryd.ntmps14
      go_wp2_with fail
      refine (rtwo_any _ _ _ HS.out HR.out).mono ?_
      rintro e w' ⟨rfl, rfl⟩
      rw [HE.out]
      go_wp2_with fail
      refine (rcan_any _ _ l _ HSZ.out HV.out hl HCP.out).mono ?_
      rintro e w1 ⟨rfl, hb⟩
      rw [HQ.out]
      have HB := Lib.hid hb
      clear hb
      go_wp2_with fail
      go_ret
      exact ⟨ret_int HK.out.symm, HB.out⟩
  · have HK : Hid (ckE s r l = bothE (B s).data.toList (B r).data.toList) := Lib.hid (by unfold ckE; rw [if_neg hE, L_B, L_B])
    have hne : (bothE (B s).data.toList (B r).data.toList != 0) = true := by rw [L_B, L_B]; simpa using hE
    obtain ⟨q, eq⟩ : ∃ q, bothE (B s).data.toList (B r).data.toList = q := ⟨_, rfl⟩
    rw [eq] at hne HK
    have HQ := Lib.hid eq
    clear hE eq
    go_enter Tryd.func14, Tryd.ntmps14
    go_wp2_with fail
    refine (rtwo_any _ _ _ HS.out HR.out).mono ?_
    rintro e w' ⟨rfl, rfl⟩
    rw [HQ.out]
    go_wp2_with fail
    go_ret
    exact ⟨ret_int HK.out.symm, Below.refl _ _⟩
end Go.Proofs.YtgcaldceiogkaaaDoor
