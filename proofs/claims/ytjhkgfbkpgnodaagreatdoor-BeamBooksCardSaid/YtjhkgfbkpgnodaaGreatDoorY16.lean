/- The statements' book and ints. -/
import Derived.Test.YtjhkgfbkpgnodaaGreatDoorY9
import Derived.Test.YtjhkgfbkpgnodaaGreatDoorL13
namespace Go.Proofs.YtjhkgfbkpgnodaaGreatDoor
open Go.RowKit Go.Shelf

set_option maxRecDepth 100000 in
theorem ints_any (v u : Value) (l m : List Nat) (w : World) (hv : IRow w v l) (hu : IRow w u m) (hl : l.length ≤ 1000) (hm : m.length ≤ 1000) :
    Calls Tryz.prog 21 #[v, u] w fun e w' => e = .returned (.bool (decide (l = m))) ∧ Below w.heap.size w w' := by
  obtain ⟨a, cap, rfl, hc⟩ := hv.form
  obtain ⟨b, cap2, rfl, hd⟩ := hu.form
  have HC := Lib.hid hc
  have HD := Lib.hid hd
  clear hc hd hv hu
  by_cases hlen : l.length = m.length
  · have hq : ((l.length : Int) != m.length) = false := by rw [hlen]; simp
    have HL := Lib.hid hlen
    clear hlen
    go_enter Tryz.func21, Tryz.ntmps21
    go_wp2_with fail
    go_loopw [5] (fun i wr => ∃ k : Nat, k ≤ l.length ∧ i = .int .i64 k ∧ Hid (l.take k = m.take k) ∧ Hid (Below w.heap.size w wr)) (fun i _ => l.length - (intOf i).toNat)
    case atStart => exact ⟨0, Nat.zero_le _, rfl, Lib.hid rfl, Lib.hid (Below.refl _ _)⟩
    case round =>
      obtain ⟨k, hk, rfl, hT, hB⟩ := hrel
      by_cases hlt : k < l.length
      · have hltm : k < m.length := by rw [← HL.out]; exact hlt
        obtain ⟨g, rfl, hg, c0⟩ := HC.out k hlt
        obtain ⟨g2, rfl, hg2, d0⟩ := HD.out k hltm
        have hlti : (k : Int) < l.length := by omega
        have hltj : (k : Int) < m.length := by omega
        have hk0 : (0 : Int) ≤ k := by omega
        have c1 := (hB.out.cell (p := ⟨g, k, none⟩) hg).trans c0
        have d1 := (hB.out.cell (p := ⟨g2, k, none⟩) hg2).trans d0
        have HX := Lib.hid (nat_take_succ hlt)
        have HY := Lib.hid (nat_take_succ hltm)
        obtain ⟨x, hx⟩ : ∃ x, l.getD k 0 = x := ⟨_, rfl⟩
        obtain ⟨y, hy⟩ : ∃ y, m.getD k 0 = y := ⟨_, rfl⟩
        rw [hx] at c1 HX
        rw [hy] at d1 HY
        clear c0 d0
        by_cases hxy : x = y
        · have HN : Hid (l.take (k + 1) = m.take (k + 1)) := Lib.hid (by rw [HX.out, HY.out, hT.out, hxy])
          subst hxy
          clear hx hy
          go_wp2_with fail
          go_quiet (fail)
          go_wp2_with fail
          go_roundw
          case rel => exact ⟨k + 1, by omega, by go_num, HN, Lib.hid (below_drewN hB.out _)⟩
          case measure => simp [intOf]; omega
        · have HN : Hid (decide (l = m) = false) := Lib.hid (decide_eq_false (fun e => by
            subst e; rw [hx] at hy; exact hxy hy))
          have hne : ((x : Int) != y) = true := by simp; omega
          clear hx hy hxy
          go_wp2_with fail
          go_quiet (fail)
          go_wp2_with fail
          go_ret
          exact ⟨ret_bool HN.out.symm, below_drewN hB.out _⟩
      · obtain rfl : k = l.length := by omega
        have HN : Hid (decide (l = m) = true) := Lib.hid (decide_eq_true (by
          have := hT.out; rwa [List.take_length, HL.out, List.take_length] at this))
        go_wp2_with fail
        go_ret
        exact ⟨ret_bool HN.out.symm, hB.out⟩
  · have hq : ((l.length : Int) != m.length) = true := by simp; omega
    have HN : Hid (decide (l = m) = false) := Lib.hid (decide_eq_false (fun e => hlen (by rw [e])))
    clear hlen
    go_enter Tryz.func21, Tryz.ntmps21
    go_wp2_with fail
    go_ret
    exact ⟨ret_bool HN.out.symm, Below.refl _ _⟩

def bookB (l : List (List UInt8)) : Bool := (l.all fun x => briefB x.length) && (decide (l.length ≤ 4) || (decide (8 < l.length) && decide (l.length ≤ 20)))
set_option maxRecDepth 100000 in
theorem book_any (v : Value) (l : List (List UInt8)) (w : World) (hv : SRow w v l) (hl : l.length ≤ 9223372036854775807) :
    Calls Tryz.prog 16 #[v] w fun e w' => e = .returned (.bool (bookB l)) ∧ w = w' := by
  obtain ⟨a, cap, rfl, hc⟩ := hv.form
  have HC := Lib.hid hc
  have HB0 : Hid (bookB l = ((l.all fun x => briefB x.length) && (decide (l.length ≤ 4) || (decide (8 < l.length) && decide (l.length ≤ 20))))) := Lib.hid rfl
  clear hc hv
  go_enter Tryz.func16, Tryz.ntmps16
  go_wp2_with fail
  go_loop [3] (fun i => ∃ k : Nat, k ≤ l.length ∧ i = .int .i64 k ∧ Hid (((l.take k).all fun x => briefB x.length) = true)) (fun i => l.length - (intOf i).toNat)
  case atStart => exact ⟨0, Nat.zero_le _, rfl, Lib.hid rfl⟩
  case round =>
    obtain ⟨k, hk, rfl, hT⟩ := hrel
    by_cases hlt : k < l.length
    · obtain ⟨g, off, rfl, hg, c0⟩ := HC.out k hlt
      have hlti : (k : Int) < l.length := by omega
      have hk0 : (0 : Int) ≤ k := by omega
      have HG : Hid (l.getD k [] = l[k]) := Lib.hid (by rw [List.getD_eq_getElem?_getD, List.getElem?_eq_getElem hlt]; rfl)
      have HT : Hid (l.take (k + 1) = l.take k ++ [l[k]]) := Lib.hid (List.take_succ_eq_append_getElem hlt)
      obtain ⟨x, hx⟩ : ∃ x, l.getD k [] = x := ⟨_, rfl⟩
      rw [hx] at c0 HG
      have HXB := Lib.hid (brief_any x w)
      cases hb : briefB x.length
      · have HF : Hid (bookB l = false) := Lib.hid (by
          rw [HB0.out]
          have : (l.all fun x => briefB x.length) = false := by
            rw [List.all_eq_false]
            exact ⟨l[k], List.getElem_mem _, by rw [← HG.out, hb]; simp⟩
          rw [this]; rfl)
        rw [hb] at HXB
        clear hb hx
        go_wp2_with fail
        refine HXB.out.mono ?_
        rintro e w' ⟨rfl, rfl⟩
        go_wp2_with fail
        go_ret
        exact ⟨ret_bool HF.out.symm, rfl⟩
      · have HN : Hid (((l.take (k + 1)).all fun x => briefB x.length) = true) := Lib.hid (by rw [HT.out, List.all_append, hT.out, ← HG.out]; simp [hb])
        rw [hb] at HXB
        clear hb hx
        go_wp2_with fail
        refine HXB.out.mono ?_
        rintro e w' ⟨rfl, rfl⟩
        go_wp2_with fail
        go_round
        case rel => exact ⟨k + 1, by omega, by go_num, HN⟩
        case measure => simp [intOf]; omega
    · obtain rfl : k = l.length := by omega
      have HA : Hid (bookB l = (decide (l.length ≤ 4) || (decide (8 < l.length) && decide (l.length ≤ 20)))) := Lib.hid (by
        have := hT.out; rw [List.take_length] at this
        rw [HB0.out, this, Bool.true_and])
      by_cases h4 : l.length ≤ 4
      · have HV : Hid (bookB l = true) := Lib.hid (by rw [HA.out, decide_eq_true h4]; rfl)
        have g4 : (l.length : Int) ≤ 4 := by omega
        clear h4
        go_wp2_with fail
        go_ret
        exact ⟨ret_bool HV.out.symm, rfl⟩
      · have g4 : decide ((l.length : Int) ≤ 4) = false := decide_eq_false (by omega)
        by_cases h8 : 8 < l.length
        · have g8 : decide ((8 : Int) < l.length) = true := decide_eq_true (by omega)
          by_cases h20 : l.length ≤ 20
          · have HV : Hid (bookB l = true) := Lib.hid (by rw [HA.out, decide_eq_true h8, decide_eq_true h20]; simp)
            have g20 : decide ((l.length : Int) ≤ 20) = true := decide_eq_true (by omega)
            clear h4 h8 h20
            go_wp2_with fail
            go_ret
            exact ⟨ret_bool HV.out.symm, rfl⟩
          · have HV : Hid (bookB l = false) := Lib.hid (by rw [HA.out, decide_eq_false h4, decide_eq_false h20]; simp)
            have g20 : decide ((l.length : Int) ≤ 20) = false := decide_eq_false (by omega)
            clear h4 h8 h20
            go_wp2_with fail
            go_ret
            exact ⟨ret_bool HV.out.symm, rfl⟩
        · have HV : Hid (bookB l = false) := Lib.hid (by rw [HA.out, decide_eq_false h4, decide_eq_false h8]; simp)
          have g8 : decide ((8 : Int) < l.length) = false := decide_eq_false (by omega)
          clear h4 h8
          go_wp2_with fail
          go_ret
          exact ⟨ret_bool HV.out.symm, rfl⟩
end Go.Proofs.YtjhkgfbkpgnodaaGreatDoor
