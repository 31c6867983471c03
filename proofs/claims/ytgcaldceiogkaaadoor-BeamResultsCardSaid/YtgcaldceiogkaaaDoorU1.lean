/- The statements' texts: whether two slices of strings are equal; the reference's Time. -/
import Derived.Test.YtgcaldceiogkaaaDoorU0
import Derived.Test.YtgcaldceiogkaaaDoorP6
import Derived.Test.YtgcaldceiogkaaaDoorA1
import Derived.Deep.QuietTactic
import Derived.BigQuiet
namespace Go.Proofs.YtgcaldceiogkaaaDoor
open Go.RowKit Go.Shelf

set_option maxRecDepth 100000 in
theorem texts_any (v u : Value) (l m : List (List UInt8)) (w : World) (hv : SRow w v l) (hu : SRow w u m) (hl : l.length ≤ 1000000) (hm : m.length ≤ 1000000) :
    Calls Tryd.prog 20 #[v, u] w fun e w' => e = .returned (.bool (decide (l = m))) ∧ Below w.heap.size w w' := by
  obtain ⟨a, cap, rfl, hc⟩ := hv.form
  obtain ⟨b, cap2, rfl, hd⟩ := hu.form
  have HC := Lib.hid hc
  have HD := Lib.hid hd
  clear hc hd hv hu
  by_cases hlen : l.length = m.length
  · have hq : ((l.length : Int) != m.length) = false := by rw [hlen]; simp
    have HL := Lib.hid hlen
    clear hlen
    go_enter Tryd.func20, Tryd.ntmps20
    go_wp2_with fail
    go_loopw [5] (fun i wr => ∃ k : Nat, k ≤ l.length ∧ i = .int .i64 k ∧ Hid (l.take k = m.take k) ∧ Hid (Below w.heap.size w wr)) (fun i _ => l.length - (intOf i).toNat)
    case atStart => exact ⟨0, Nat.zero_le _, rfl, Lib.hid rfl, Lib.hid (Below.refl _ _)⟩
    case round =>
      obtain ⟨k, hk, rfl, hT, hB⟩ := hrel
      by_cases hlt : k < l.length
      · have hltm : k < m.length := by rw [← HL.out]; exact hlt
        obtain ⟨g, off, rfl, hg, c0⟩ := HC.out k hlt
        obtain ⟨g2, off2, rfl, hg2, d0⟩ := HD.out k hltm
        have hlti : (k : Int) < l.length := by omega
        have hltj : (k : Int) < m.length := by omega
        have hk0 : (0 : Int) ≤ k := by omega
        have c1 := (hB.out.cell (p := ⟨g, _, none⟩) hg).trans c0
        have d1 := (hB.out.cell (p := ⟨g2, _, none⟩) hg2).trans d0
        have ex : l.getD k [] = l[k] := by rw [List.getD_eq_getElem?_getD, List.getElem?_eq_getElem hlt]; rfl
        have ey : m.getD k [] = m[k] := by rw [List.getD_eq_getElem?_getD, List.getElem?_eq_getElem hltm]; rfl
        obtain ⟨x, hx⟩ : ∃ x, l[k] = x := ⟨_, rfl⟩
        obtain ⟨y, hy⟩ : ∃ y, m[k] = y := ⟨_, rfl⟩
        rw [ex, hx] at c1
        rw [ey, hy] at d1
        clear c0 d0 ex ey
        by_cases hxy : x = y
        · have HN : Hid (l.take (k + 1) = m.take (k + 1)) := Lib.hid (by
            rw [List.take_succ_eq_append_getElem hlt, List.take_succ_eq_append_getElem hltm, hT.out, hx, hy, hxy])
          subst hxy
          clear hx hy
          go_wp2_with fail
          go_quiet (fail)
          go_wp2_with fail
          go_roundw
          case rel => exact ⟨k + 1, by omega, by go_num, HN, Lib.hid (below_drewN hB.out _)⟩
          case measure => simp [intOf]; omega
        · have HN : Hid (decide (l = m) = false) := Lib.hid (decide_eq_false (fun e => by
            subst e; rw [hx] at hy; exact hxy hy))
          have hne : (x == y) = false := by simpa using hxy
          have hne2 : (x != y) = true := by simpa using hxy
          clear hx hy hxy
          go_wp2_with fail
          go_quiet (fail)
          go_wp2_with fail
          go_ret
          exact ⟨ret_bool HN.out.symm, below_drewN hB.out _⟩
      · obtain rfl : k = l.length := by omega
        have HN : Hid (decide (l = m) = true) := Lib.hid (decide_eq_true (by
          have := hT.out; rwa [List.take_length, HL.out, List.take_length] at this))
        go_wp2_with fail
        go_ret
        exact ⟨ret_bool HN.out.symm, hB.out⟩
  · have hq : ((l.length : Int) != m.length) = true := by rw [bne_iff_ne]; omega
    have HN : Hid (decide (l = m) = false) := Lib.hid (decide_eq_false (fun e => hlen (by rw [e])))
    clear hlen
    go_enter Tryd.func20, Tryd.ntmps20
    go_wp2_with fail
    go_ret
    exact ⟨ret_bool HN.out.symm, Below.refl _ _⟩

theorem rtime_any (s : ByteArray) (w : World) (hs : s.size ≤ maxLen) :
    Calls Tryd.prog 22 #[.string s] w fun e w' => e = .returned (timeV s.data.toList) ∧ w = w' := by
  have hs' := hs
  unfold maxLen at hs'
  by_cases hw : flashE s.data.toList 4000 = 0
  · have h1 : s.size ≤ 4000 := by
      unfold flashE at hw; split at hw
      · cases hw
      · rename_i h; have := size_toList s; omega
    have hall : s.data.toList.all flashB = true := by
      unfold flashE at hw
      split at hw
      · cases hw
      · split at hw
        · assumption
        · cases hw
    have HA := Lib.hid hall
    have Hw := Lib.hid hw
    clear hw hall
    go_enter Tryd.func22, Tryd.ntmps22
    go_wp2_with fail
    refine (rflashes_any _ _ _ hs).mono ?_
    rintro e w' ⟨rfl, rfl⟩
    rw [Hw.out]
    go_wp2_with fail
    go_loop [5, 6] (fun p i => ∃ k : Nat, k ≤ s.size ∧ i = .int .i64 k ∧ p = .int .i64 (costK s.data.toList k)) (fun _ i => s.size - (intOf i).toNat)
    case atStart => exact ⟨0, Nat.zero_le _, rfl, rfl⟩
    case round =>
      obtain ⟨k, hk, rfl, rfl⟩ := hrel
      have hp := costK_bd s.data.toList k
      by_cases hlt : k < s.size
      · have Hv := Lib.hid (costK_at s k hlt)
        have hfl : flashB s[k] = true := List.all_eq_true.1 HA.out _ (by simp [ByteArray.getElem_eq_getElem_data])
        have HF := Lib.hid hfl
        clear hfl
        go_wp2
        all_goals
          go_round
          case rel => exact ⟨k + 1, by omega, by go_num, by rw [Hv.out]; have := HF.out; simp_all [costI, flashB]⟩
          case measure => simp [intOf]; omega
      · obtain rfl : k = s.size := by omega
        go_wp2_with fail
        go_ret2
        exact ⟨ret_val (by simp only [timeV, Hw.out, if_true]; rfl), rfl⟩
  · have Hw := Lib.hid hw
    have hb : (flashE s.data.toList 4000 != 0) = true := by simpa using hw
    clear hw
    go_enter Tryd.func22, Tryd.ntmps22
    go_wp2_with fail
    refine (rflashes_any _ _ _ hs).mono ?_
    rintro e w' ⟨rfl, rfl⟩
    go_wp2_with fail
    go_ret2
    exact ⟨ret_val (by simp only [timeV]; rw [if_neg Hw.out]; rfl), rfl⟩
end Go.Proofs.YtgcaldceiogkaaaDoor
