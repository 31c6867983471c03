/- CheckFaults of package beam. -/
import Derived.Test.YtgcaldceiogkaaaDoorE3
namespace Go.Proofs.YtgcaldceiogkaaaDoor
open Go.RowKit Go.Shelf

theorem FRow.keep {w w' : World} {v : Value} {l : List Flt} (h : FRow w v l) (hb : Below w.heap.size w w') : FRow w' v l := by
  rcases h with h | ⟨b, off, cap, hv, hlt, hc⟩
  · exact .inl h
  · exact .inr ⟨b, off, cap, hv, Nat.lt_of_lt_of_le hlt hb.size, fun i hi => ⟨(hb.cell (p := ⟨b, _, none⟩) hlt).trans (hc i hi).1, (hb.cell (p := ⟨b, _, none⟩) hlt).trans (hc i hi).2⟩⟩
/-- The error of CheckFaults. -/
def ckE (s r : List UInt8) (l : List Flt) : Int := if bothE s r = 0 then (if faultedE s l = 0 then (if faultedL s l = r then 0 else 8) else faultedE s l) else bothE s r

theorem B_inj {a b : List UInt8} : B a = B b ↔ a = b := ⟨fun h => by rw [← L_B a, h, L_B], fun h => by rw [h]⟩

set_option maxRecDepth 100000 in
theorem CheckFaults_any (s : ByteArray) (r : List UInt8) (v : Value) (l : List Flt) (w : World) (hs : s.size ≤ maxLen) (hr : r.length ≤ maxLen) (hv : FRow w v l) (hl : l.length ≤ 1000000) :
    Calls Tryd.prog 13 #[.string s, .string (B r), v] w fun e w' => e = .returned (.int .i64 (ckE s.data.toList r l)) ∧ Below w.heap.size w w' := by
  have HB := Lib.hid (checkBoth_any s (B r) w hs (by rw [size_B]; exact hr))
  by_cases hE : bothE s.data.toList r = 0
  · have HE : Hid (bothE s.data.toList (B r).data.toList = 0) := Lib.hid (by rw [L_B]; exact hE)
    by_cases hF : faultedE s.data.toList l = 0
    · have HFV : Hid (faultedV s.data.toList l = .tuple #[.string (B (faultedL s.data.toList l)), .int .i64 0]) := Lib.hid (by unfold faultedV; rw [if_pos hF])
      have HC : Hid (ckE s.data.toList r l = if faultedL s.data.toList l = r then 0 else 8) := Lib.hid (by unfold ckE; rw [if_pos hE, if_pos hF])
      obtain ⟨q, hq⟩ : ∃ q, faultedL s.data.toList l = q := ⟨_, rfl⟩
      rw [hq] at HFV HC
      clear hE hF hq
      go_enter Tryd.func13, Tryd.ntmps13
      go_wp2_with fail
      refine HB.out.mono ?_
      rintro e w1 ⟨rfl, hb1⟩
      rw [HE.out]
      go_wp2_with fail
      refine (faulted_any s v l w1 hs (hv.keep hb1) hl).mono ?_
      rintro e w2 ⟨rfl, hb2⟩
      have hbb := hb1.trans (hb2.mono hb1.size)
      rw [HFV.out]
      by_cases hc : q = r
      · have HC2 := Lib.hid (HC.out.trans (if_pos hc))
        subst hc
        go_wp2_with fail
        go_ret
        exact ⟨ret_val (by rw [HC2.out]; rfl), hbb⟩
      · have HC2 := Lib.hid (HC.out.trans (if_neg hc))
        have hne : (q == r) = false := by simpa using hc
        clear hc
        go_wp2_with fail
        go_ret
        exact ⟨ret_val (by rw [HC2.out]; rfl), hbb⟩
    · have HFV : Hid (faultedV s.data.toList l = .tuple #[.string ⟨#[]⟩, .int .i64 (faultedE s.data.toList l)]) := Lib.hid (by unfold faultedV; rw [if_neg hF])
      have HC : Hid (ckE s.data.toList r l = faultedE s.data.toList l) := Lib.hid (by unfold ckE; rw [if_pos hE, if_neg hF])
      obtain ⟨q, hq⟩ : ∃ q, faultedE s.data.toList l = q := ⟨_, rfl⟩
      rw [hq] at HFV HC hF
      have hne : (q != 0) = true := by simpa using hF
      clear hE hF hq
      go_enter Tryd.func13, Tryd.ntmps13
      go_wp2_with fail
      refine HB.out.mono ?_
      rintro e w1 ⟨rfl, hb1⟩
      rw [HE.out]
      go_wp2_with fail
      refine (faulted_any s v l w1 hs (hv.keep hb1) hl).mono ?_
      rintro e w2 ⟨rfl, hb2⟩
      have hbb := hb1.trans (hb2.mono hb1.size)
      rw [HFV.out]
      go_wp2_with fail
      go_ret
      exact ⟨ret_val (by rw [HC.out]; rfl), hbb⟩
  · have HC : Hid (ckE s.data.toList r l = bothE s.data.toList (B r).data.toList) := Lib.hid (by unfold ckE; rw [if_neg hE, L_B])
    have hne : (bothE s.data.toList (B r).data.toList != 0) = true := by rw [L_B]; simpa using hE
    obtain ⟨q, hq⟩ : ∃ q, bothE s.data.toList (B r).data.toList = q := ⟨_, rfl⟩
    rw [hq] at HC hne
    have HQ := Lib.hid hq
    clear hE hq
    go_enter Tryd.func13, Tryd.ntmps13
    go_wp2_with fail
    refine HB.out.mono ?_
    rintro e w1 ⟨rfl, hb1⟩
    rw [HQ.out]
    go_wp2_with fail
    go_ret
    exact ⟨ret_val (by rw [HC.out]; rfl), hb1⟩
end Go.Proofs.YtgcaldceiogkaaaDoor
