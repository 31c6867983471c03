/- The reference's received. -/
import Derived.Test.YtgcaldceiogkaaaDoorQ2
import Derived.Test.YtgcaldceiogkaaaDoorQ3
import Derived.Test.YtgcaldceiogkaaaDoorF0
namespace Go.Proofs.YtgcaldceiogkaaaDoor
open Go.RowKit Go.Shelf

theorem Bq_add (a b : List UInt8) : B (a ++ b) = B a ++ B b := by apply ext_L; simp
theorem scut_one (s : List UInt8) (k : Nat) (h : k < s.length) : cutL s k (k + 1) = [s.getD k 0] := by
  unfold cutL
  rw [show k + 1 - k = 1 by omega, List.drop_eq_getElem_cons h, List.getD_eq_getElem?_getD, List.getElem?_eq_getElem h]; rfl
theorem scut_run (s : List UInt8) (k : Nat) (h : k < s.length) (y z : Int) (hy : y = k) (hz : z = (k : Int) + 1) (W : World) :
    (Instr.slice 9 (.string (B s)) (some (.int .i64 y)) (some (.int .i64 z)) none).run Tryd.prog W = .ok (.string (B [s.getD k 0])) W := by
  have := sslice_run W s _ k (k + 1) (by omega) (by omega) (cutL_extract s k (k + 1) (by omega)) y z hy (by omega)
  rw [scut_one s k h] at this
  exact this

set_option maxRecDepth 100000 in
set_option maxHeartbeats 1000000 in
theorem rreceived_any (s : List UInt8) (v : Value) (l : List Flt) (w : World) (hs : s.length ≤ 100) (hv : FRow w v l) (hl : l.length ≤ 1000000) (hc : canE s.length l = 0) :
    Calls Tryd.prog 34 #[.string (B s), v] w fun e w' => e = .returned (.string (B (faultedL s l))) ∧ Below w.heap.size w w' := by
  have HV := Lib.hid hv
  have HC := Lib.hid hc
  clear hv hc
  go_enter Tryd.func34, Tryd.ntmps34
  go_wp2_with fail
  go_loopw [5, 6] (fun o i wr => ∃ k : Nat, k ≤ s.length ∧ i = .int .i64 k ∧ o = .string (B (faultedK s l k)) ∧ Hid (ns l k) ∧ Hid (Below w.heap.size w wr)) (fun _ i _ => s.length - (intOf i).toNat)
  case atStart => exact ⟨0, Nat.zero_le _, rfl, rfl, Lib.hid (ns_start HC.out), Lib.hid (Below.refl _ _)⟩
  case round =>
    obtain ⟨k, hk, rfl, rfl, hN, hB⟩ := hrel
    have hfl := faultedK_length s l k
    by_cases hlt : k < s.length
    · have hlti : (k : Int) < s.length := by omega
      have hkc := kind_cases HC.out (k : Int) hN.out
      have hcut := fun W => scut_run s k hlt (k : Int) ((k : Int) + 1) rfl rfl W
      obtain ⟨c, ec⟩ : ∃ c, s.getD k 0 = c := ⟨_, rfl⟩
      rw [ec] at hcut
      obtain ⟨pk, ep⟩ : ∃ pk, faultedK s l k = pk := ⟨_, rfl⟩
      have hpl : pk.length ≤ 2 * k := by rw [← ep]; exact hfl
      rw [ep]
      clear hfl
      rcases hkc with ⟨h1, h2⟩ | ⟨h1, h2⟩ | ⟨h1, h2⟩ | ⟨h1, h2, h3, h4, h5⟩
      · have HK := Lib.hid h1
        obtain ⟨e1, e2⟩ := step_none HC.out k h2
        rw [ep, ec] at e1
        have HE := Lib.hid e1
        have HN := Lib.hid e2
        have ha1 : ¬ 9223372036854775807 < pk.length + 1 := by omega
        clear h1 h2 e1 e2 ep ec
        go_wp2_with fail
        refine (rkind_any _ l k _ (HV.out.keep hB.out) hl).mono ?_
        rintro e w' ⟨rfl, rfl⟩
        rw [HK.out]
        go_wp2_with fail
        go_roundw
        case rel => exact ⟨k + 1, by omega, by go_num, by rw [HE.out, Bq_add], HN, hB⟩
        case measure => simp [intOf]; omega
      · have HK := Lib.hid h1
        obtain ⟨e1, e2⟩ := step_lost HC.out k h2
        rw [ep] at e1
        have HE := Lib.hid e1
        have HN := Lib.hid e2
        clear h1 h2 e1 e2 ep ec hcut
        go_wp2_with fail
        refine (rkind_any _ l k _ (HV.out.keep hB.out) hl).mono ?_
        rintro e w' ⟨rfl, rfl⟩
        rw [HK.out]
        go_wp2_with fail
        go_roundw
        case rel => exact ⟨k + 1, by omega, by go_num, by rw [HE.out], HN, hB⟩
        case measure => simp [intOf]; omega
      · have HK := Lib.hid h1
        obtain ⟨e1, e2⟩ := step_twice HC.out k h2
        rw [ep, ec] at e1
        have HE := Lib.hid e1
        have HN := Lib.hid e2
        have ha1 : ¬ 9223372036854775807 < pk.length + 1 := by omega
        have ha2 : ¬ 9223372036854775807 < pk.length + 1 + 1 := by omega
        have hwr := Lib.hid (IntWalk.i64_in ((k : Int) + 1) (by omega))
        clear h1 h2 e1 e2 ep ec
        go_wp2_with fail
        refine (rkind_any _ l k _ (HV.out.keep hB.out) hl).mono ?_
        rintro e w' ⟨rfl, rfl⟩
        rw [HK.out]
        go_wp2_with fail
        have hwo := hwr.out
        go_quiet (fail)
        clear hwo
        go_wp2_with fail
        go_roundw
        case rel => exact ⟨k + 1, by omega, by go_num, by rw [HE.out, Bq_add, Bq_add], HN, Lib.hid (below_drewN hB.out _)⟩
        case measure => simp [intOf]; omega
      · have HK := Lib.hid h1
        obtain ⟨e1, e2⟩ := step_swap HC.out k h2 h3
        have hk2 : k + 1 < s.length := by omega
        have hcut2 := fun W => scut_run s (k + 1) hk2 ((k : Int) + 1) ((k : Int) + 2) (by omega) (by omega) W
        obtain ⟨d, ed⟩ : ∃ d, s.getD (k + 1) 0 = d := ⟨_, rfl⟩
        rw [ep, ec, ed] at e1
        rw [ed] at hcut2
        have HE := Lib.hid e1
        have HN := Lib.hid e2
        have ha1 : ¬ 9223372036854775807 < pk.length + 1 := by omega
        have ha2 : ¬ 9223372036854775807 < pk.length + 1 + 1 := by omega
        have hwr := Lib.hid (IntWalk.i64_in ((k : Int) + 1) (by omega))
        have hwr2 := Lib.hid (IntWalk.i64_in ((k : Int) + 2) (by omega))
        clear h1 h2 h3 h4 h5 e1 e2 ep ec ed
        go_wp2_with fail
        refine (rkind_any _ l k _ (HV.out.keep hB.out) hl).mono ?_
        rintro e w' ⟨rfl, rfl⟩
        rw [HK.out]
        go_wp2_with fail
        have hwo := hwr.out
        have hwo2 := hwr2.out
        go_quiet (fail)
        clear hwo hwo2
        go_wp2_with fail
        go_roundw
        case rel => exact ⟨k + 2, by omega, by go_num, by rw [HE.out, Bq_add, Bq_add], HN, Lib.hid (below_drewN hB.out _)⟩
        case measure => simp [intOf]; omega
    · obtain rfl : k = s.length := by omega
      go_wp2_with fail
      go_ret
      exact ⟨rfl, hB.out⟩
end Go.Proofs.YtgcaldceiogkaaaDoor
