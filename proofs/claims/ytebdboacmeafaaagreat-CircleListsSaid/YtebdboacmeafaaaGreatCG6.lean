/- Package firetowerref05: SameInts. -/
import Derived.Test.YtebdboacmeafaaaGreatCEA
set_option linter.unusedVariables false
set_option linter.unusedSimpArgs false
namespace Go.Proofs.YtebdboacmeafaaaGreat
open Go Go.RowKit

set_option maxRecDepth 100000 in
theorem pSameInts_any (v u : Value) (l m : List Int) (w : World) (hv : INRow w v l) (hu : INRow w u m) (hl : l.length ≤ 1000000) (hm : m.length ≤ 1000000) :
    Calls Tryz.prog 25 #[v, u] w fun e w' => e = .returned (.bool (decide (l = m))) ∧ Below w.heap.size w w' := by
  obtain ⟨a, cap, rfl, hc⟩ := hv.form
  obtain ⟨b, cap2, rfl, hd⟩ := hu.form
  have HC := Lib.hid hc
  have HD := Lib.hid hd
  clear hc hd hv hu
  by_cases hlen : l.length = m.length
  · have hq : ((l.length : Int) != m.length) = false := by rw [hlen]; simp
    have HL := Lib.hid hlen
    clear hlen
    go_enter Tryz.func25, Tryz.ntmps25
    go_wp2_with fail
    go_loopw [5] (fun i wr => ∃ k : Nat, k ≤ l.length ∧ i = .int .i64 k ∧ Hid (l.take k = m.take k) ∧ Hid (Below w.heap.size w wr)) (fun i _ => l.length - (intOf i).toNat)
    case atStart => exact ⟨0, Nat.zero_le _, rfl, Lib.hid rfl, Lib.hid (Below.refl _ _)⟩
    case round =>
      obtain ⟨k, hk, rfl, hT, hB⟩ := hrel
      by_cases hlt : k < l.length
      · have hltm : k < m.length := by rw [← HL.out]; exact hlt
        obtain ⟨g, off, rfl, hg, c0⟩ := HC.out k hlt
        obtain ⟨g2, off2, rfl, hg2, d0⟩ := HD.out k hltm
        have hlti : (k : Int) < l.length := by omega
        have hltj : (k : Int) < m.length := by omega
        have hk0 : (0 : Int) ≤ k := by omega
        have c1 := (hB.out.cell (p := ⟨g, _, none⟩) hg).trans c0
        have d1 := (hB.out.cell (p := ⟨g2, _, none⟩) hg2).trans d0
        have ex : l.getD k 0 = l[k] := by rw [List.getD_eq_getElem?_getD, List.getElem?_eq_getElem hlt]; rfl
        have ey : m.getD k 0 = m[k] := by rw [List.getD_eq_getElem?_getD, List.getElem?_eq_getElem hltm]; rfl
        obtain ⟨x, hx⟩ : ∃ x, l[k] = x := ⟨_, rfl⟩
        obtain ⟨y, hy⟩ : ∃ y, m[k] = y := ⟨_, rfl⟩
        rw [ex, hx] at c1
        rw [ey, hy] at d1
        clear c0 d0 ex ey
        by_cases hxy : x = y
        · have HN : Hid (l.take (k + 1) = m.take (k + 1)) := Lib.hid (by
            rw [List.take_succ_eq_append_getElem hlt, List.take_succ_eq_append_getElem hltm, hT.out, hx, hy, hxy])
          have hne2 : (x != y) = false := by simpa using hxy
          clear hx hy hxy
          go_wp2_with fail
          go_quiet (fail)
          go_wp2_with fail
          go_roundw
          case rel => exact ⟨k + 1, by omega, by go_num, HN, Lib.hid (belowN hB.out _)⟩
          case measure => simp [intOf]; omega
        · have HN : Hid (decide (l = m) = false) := Lib.hid (decide_eq_false (fun e => by
            subst e; rw [hx] at hy; exact hxy hy))
          have hne2 : (x != y) = true := by simpa using hxy
          clear hx hy hxy
          go_wp2_with fail
          go_quiet (fail)
          go_wp2_with fail
          go_ret
          exact ⟨by rw [HN.out]; rfl, belowN hB.out _⟩
      · obtain rfl : k = l.length := by omega
        have HN : Hid (decide (l = m) = true) := Lib.hid (decide_eq_true (by
          have := hT.out; rwa [List.take_length, HL.out, List.take_length] at this))
        go_wp2_with fail
        go_ret
        exact ⟨by rw [HN.out]; rfl, hB.out⟩
  · have hq : ((l.length : Int) != m.length) = true := by rw [bne_iff_ne]; omega
    have HN : Hid (decide (l = m) = false) := Lib.hid (decide_eq_false (fun e => hlen (by rw [e])))
    clear hlen
    go_enter Tryz.func25, Tryz.ntmps25
    go_wp2_with fail
    go_ret
    exact ⟨by rw [HN.out]; rfl, Below.refl _ _⟩
end Go.Proofs.YtebdboacmeafaaaGreat
