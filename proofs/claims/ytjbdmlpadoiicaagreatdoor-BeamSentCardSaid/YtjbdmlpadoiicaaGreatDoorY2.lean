/- checkBook of package beam, and the reference's Book. -/
import Derived.Test.YtjbdmlpadoiicaaGreatDoorY0
import Derived.Test.YtjbdmlpadoiicaaGreatDoorX1
import Derived.Test.YtjbdmlpadoiicaaGreatDoorShelf2
set_option linter.unusedVariables false
set_option linter.unusedSimpArgs false
namespace Go.Proofs.YtjbdmlpadoiicaaGreatDoor
open Go.RowKit Go.Shelf

def nodupTo (l : List (List UInt8)) (k : Nat) : Bool := (List.range k).all fun i => !decide (l.getD i [] ∈ l.take i)
def nodupB (l : List (List UInt8)) : Bool := nodupTo l l.length
theorem nodupTo_succ (l : List (List UInt8)) (k : Nat) : nodupTo l (k + 1) = (nodupTo l k && !decide (l.getD k [] ∈ l.take k)) := by
  unfold nodupTo; rw [List.range_succ, List.all_append]; simp
theorem nodupB_false {l : List (List UInt8)} {k : Nat} (hk : k < l.length) (h : l.getD k [] ∈ l.take k) : nodupB l = false := by
  unfold nodupB nodupTo
  rw [List.all_eq_false]
  exact ⟨k, List.mem_range.2 hk, by rw [decide_eq_true h]; simp⟩
/-- The error of a book. -/
def bookE (l : List (List UInt8)) : Int := if 8 < l.length then 2 else if l.all wordB = true then (if nodupB l = true then 0 else 6) else 7
theorem all_take_succ {l : List (List UInt8)} {k : Nat} (hk : k < l.length) (h : (l.take k).all wordB = true) (hw : wordB (l.getD k []) = true) : (l.take (k + 1)).all wordB = true := by
  rw [List.take_succ_eq_append_getElem hk, List.all_append, h]
  have : l.getD k [] = l[k] := by rw [List.getD_eq_getElem?_getD, List.getElem?_eq_getElem hk]; rfl
  rw [this] at hw
  simp [hw]
theorem all_fails {l : List (List UInt8)} {k : Nat} (hk : k < l.length) (hw : wordB (l.getD k []) = false) : l.all wordB = false := by
  rw [List.all_eq_false]
  have : l.getD k [] = l[k] := by rw [List.getD_eq_getElem?_getD, List.getElem?_eq_getElem hk]; rfl
  exact ⟨l[k], List.getElem_mem _, by rw [← this, hw]; simp⟩
theorem contains_take (l : List (List UInt8)) (k : Nat) (x : List UInt8) : Lib.containsS ((l.map B).take k) (B x) = decide (x ∈ l.take k) := by
  rw [Bool.eq_iff_iff, Lib.containsS_iff, decide_eq_true_eq, ← List.map_take, List.mem_map]
  constructor
  · rintro ⟨y, hy, e⟩
    rwa [← B_inj.1 e]
  · exact fun h => ⟨x, h, rfl⟩
theorem getD_mem {l : List (List UInt8)} {k : Nat} (hk : k < l.length) : l.getD k [] ∈ l := by
  rw [List.getD_eq_getElem?_getD, List.getElem?_eq_getElem hk]; exact List.getElem_mem _

set_option maxRecDepth 100000 in
set_option maxHeartbeats 1000000 in
theorem checkBook_any (v : Value) (l : List (List UInt8)) (w : World) (hv : SRow w v l) (hcap : ∀ a n c, v = .slice a n c → n ≤ c) (hm : ∀ s ∈ l, s.length ≤ maxLen) (hl : l.length ≤ 1000000) :
    Calls Tryz.prog 51 #[v] w fun e w' => e = .returned (.int .i64 (bookE l)) ∧ w = w' := by
  obtain ⟨a, cap, rfl, hc⟩ := hv.form
  have hcp := hcap _ _ _ rfl
  have HC := Lib.hid hc
  have HM := Lib.hid hm
  have HE : Hid (bookE l = if 8 < l.length then 2 else if l.all wordB = true then (if nodupB l = true then 0 else 6) else 7) := Lib.hid rfl
  clear hc hm hv hcap
  by_cases h8 : 8 < l.length
  · have h8' : (8 : Int) < l.length := by omega
    have HV := Lib.hid (HE.out.trans (if_pos h8))
    clear h8
    go_enter Tryz.func51, Tryz.ntmps51
    go_wp2_with fail
    go_ret
    exact ⟨ret_val (by rw [HV.out]; rfl), rfl⟩
  · have h8' : ¬ (8 : Int) < l.length := by omega
    have HV := Lib.hid (HE.out.trans (if_neg h8))
    clear h8 HE
    go_enter Tryz.func51, Tryz.ntmps51
    go_wp2_with fail
    go_loop [12] (fun i => ∃ k : Nat, k ≤ l.length ∧ i = .int .i64 k ∧ Hid ((l.take k).all wordB = true)) (fun i => l.length - (intOf i).toNat)
    case atStart => exact ⟨0, Nat.zero_le _, rfl, Lib.hid rfl⟩
    case round =>
      obtain ⟨k, hk, rfl, hT⟩ := hrel
      by_cases hlt : k < l.length
      · obtain ⟨g, off, rfl, hg, c0⟩ := HC.out k hlt
        have hlti : (k : Int) < l.length := by omega
        have hk0 : (0 : Int) ≤ k := by omega
        obtain ⟨x, hx⟩ : ∃ x, l.getD k [] = x := ⟨_, rfl⟩
        rw [hx] at c0
        have HS : Hid ((B x).size ≤ maxLen) := Lib.hid (by rw [size_B, ← hx]; exact HM.out _ (getD_mem hlt))
        cases hw : wordB x
        · have HW : Hid (wordB (B x).data.toList = false) := Lib.hid (by rw [L_B]; exact hw)
          have HF : Hid (bookE l = 7) := Lib.hid (by rw [HV.out, if_neg]; rw [all_fails hlt (by rw [hx]; exact hw)]; simp)
          clear hw hx
          go_wp2_with fail
          refine (word_any _ _ HS.out).mono ?_
          rintro e w' ⟨rfl, rfl⟩
          rw [HW.out]
          go_wp2_with fail
          go_ret
          exact ⟨ret_val (by rw [HF.out]; rfl), rfl⟩
        · have HW : Hid (wordB (B x).data.toList = true) := Lib.hid (by rw [L_B]; exact hw)
          have HN : Hid ((l.take (k + 1)).all wordB = true) := Lib.hid (all_take_succ hlt hT.out (by rw [hx]; exact hw))
          clear hw hx
          go_wp2_with fail
          refine (word_any _ _ HS.out).mono ?_
          rintro e w' ⟨rfl, rfl⟩
          rw [HW.out]
          go_wp2_with fail
          go_round
          case rel => exact ⟨k + 1, by omega, by go_num, HN⟩
          case measure => simp [intOf]; omega
      · obtain rfl : k = l.length := by omega
        have HA : Hid (bookE l = if nodupB l = true then 0 else 6) := Lib.hid (by
          have := hT.out; rw [List.take_length] at this
          rw [HV.out, if_pos this])
        go_wp2_with fail
        go_loop [22] (fun i => ∃ k : Nat, k ≤ l.length ∧ i = .int .i64 k ∧ Hid (nodupTo l k = true)) (fun i => l.length - (intOf i).toNat)
        case atStart => exact ⟨0, Nat.zero_le _, rfl, Lib.hid rfl⟩
        case round =>
          clear hT hk
          obtain ⟨k, hk, rfl, hT⟩ := hrel
          by_cases hlt : k < l.length
          · obtain ⟨g, off, rfl, hg, c0⟩ := HC.out k hlt
            have hlti : (k : Int) < l.length := by omega
            have hk0 : (0 : Int) ≤ k := by omega
            obtain ⟨x, hx⟩ : ∃ x, l.getD k [] = x := ⟨_, rfl⟩
            rw [hx] at c0
            have hsl := fun W => sliceTo_run W g off l.length cap k (by omega) hcp
            have HCN := Lib.hid (Tryz.slices_Contains_string g off k cap (l.map B) (B x) w (by simp; omega) (by omega) (fun j hj => by
              have hj' : j < l.length := by simpa using hj
              obtain ⟨g', off', e, _, c⟩ := HC.out j hj'
              cases e
              rw [c]; simp [List.getD_eq_getElem?_getD, List.getElem?_eq_getElem hj']))
            have HQ := Lib.hid (contains_take l k x)
            by_cases hin : x ∈ l.take k
            · have HF : Hid (bookE l = 6) := Lib.hid (by rw [HA.out, if_neg]; rw [nodupB_false hlt (by rw [hx]; exact hin)]; simp)
              have HD : Hid (decide (x ∈ l.take k) = true) := Lib.hid (decide_eq_true hin)
              clear hin hx
              go_wp2_with fail
              refine HCN.out.mono ?_
              rintro e w' ⟨rfl, rfl⟩
              rw [HQ.out, HD.out]
              go_wp2_with fail
              go_ret
              exact ⟨ret_val (by rw [HF.out]; rfl), rfl⟩
            · have HN : Hid (nodupTo l (k + 1) = true) := Lib.hid (by rw [nodupTo_succ, hT.out, hx, decide_eq_false hin]; rfl)
              have HD : Hid (decide (x ∈ l.take k) = false) := Lib.hid (decide_eq_false hin)
              clear hin hx
              go_wp2_with fail
              refine HCN.out.mono ?_
              rintro e w' ⟨rfl, rfl⟩
              rw [HQ.out, HD.out]
              go_wp2_with fail
              go_round
              case rel => exact ⟨k + 1, by omega, by go_num, HN⟩
              case measure => simp [intOf]; omega
          · obtain rfl : k = l.length := by omega
            have HF : Hid (bookE l = 0) := Lib.hid (by rw [HA.out]; exact if_pos hT.out)
            go_wp2_with fail
            go_ret
            exact ⟨ret_val (by rw [HF.out]; rfl), rfl⟩
end Go.Proofs.YtjbdmlpadoiicaaGreatDoor

/-! The reference's Book. -/
namespace Go.Proofs.YtjbdmlpadoiicaaGreatDoor
open Go.RowKit Go.Shelf

theorem mem_take_succ {l : List (List UInt8)} {k : Nat} (hk : k < l.length) (x : List UInt8) : x ∈ l.take (k + 1) ↔ x ∈ l.take k ∨ x = l.getD k [] := by
  have : l.getD k [] = l[k] := by rw [List.getD_eq_getElem?_getD, List.getElem?_eq_getElem hk]; rfl
  rw [List.take_succ_eq_append_getElem hk, List.mem_append, List.mem_singleton, this]

set_option maxRecDepth 100000 in
set_option maxHeartbeats 1000000 in
theorem rbook_any (v : Value) (l : List (List UInt8)) (n : Int) (w : World) (hv : SRow w v l) (hm : ∀ s ∈ l, s.length ≤ maxLen) (hl : l.length ≤ 1000000) :
    Calls Tryz.prog 54 #[v, .int .i64 n] w fun e w' => e = .returned (.int .i64 (orI (bookE l) (faultsE n))) ∧ Below w.heap.size w w' := by
  obtain ⟨a, cap, rfl, hc⟩ := hv.form
  have HC := Lib.hid hc
  have HM := Lib.hid hm
  have HE : Hid (bookE l = if 8 < l.length then 2 else if l.all wordB = true then (if nodupB l = true then 0 else 6) else 7) := Lib.hid rfl
  have HO : ∀ e : Int, bookE l = e → e ≠ 0 → Hid (orI (bookE l) (faultsE n) = e) := fun e h h0 => Lib.hid (by unfold orI; rw [h, if_neg h0])
  clear hc hm hv
  by_cases h8 : 8 < l.length
  · have h8' : (8 : Int) < l.length := by omega
    have HV := HO 2 (HE.out.trans (if_pos h8)) (by decide)
    clear h8 HO
    go_enter Tryz.func54, Tryz.ntmps54
    go_wp2_with fail
    go_ret
    exact ⟨ret_val (by rw [HV.out]; rfl), Below.refl _ _⟩
  · have h8' : ¬ (8 : Int) < l.length := by omega
    have HV := Lib.hid (HE.out.trans (if_neg h8))
    have HOH := Lib.hid HO
    clear h8 HE HO
    go_enter Tryz.func54, Tryz.ntmps54
    go_wp2_with fail
    go_loopw [5] (fun i wr => ∃ k : Nat, k ≤ l.length ∧ i = .int .i64 k ∧ Hid ((l.take k).all wordB = true) ∧ wr = w) (fun i _ => l.length - (intOf i).toNat)
    case atStart => exact ⟨0, Nat.zero_le _, rfl, Lib.hid rfl, rfl⟩
    case round =>
      obtain ⟨k, hk, rfl, hT, hwr⟩ := hrel
      by_cases hlt : k < l.length
      · obtain ⟨g, off, rfl, hg, c0⟩ := HC.out k hlt
        have hlti : (k : Int) < l.length := by omega
        have hk0 : (0 : Int) ≤ k := by omega
        obtain ⟨x, hx⟩ : ∃ x, l.getD k [] = x := ⟨_, rfl⟩
        rw [hx, ← hwr] at c0
        have HS : Hid ((B x).size ≤ maxLen) := Lib.hid (by rw [size_B, ← hx]; exact HM.out _ (getD_mem hlt))
        have HWR := Lib.hid hwr
        clear hwr
        cases hw : wordB x
        · have HW : Hid (wordB (B x).data.toList = false) := Lib.hid (by rw [L_B]; exact hw)
          have HF := HOH.out 7 (by rw [HV.out, if_neg]; rw [all_fails hlt (by rw [hx]; exact hw)]; simp) (by decide)
          clear hw hx
          go_wp2_with fail
          refine (rword_any _ _ HS.out).mono ?_
          rintro e w' ⟨rfl, rfl⟩
          rw [HW.out]
          go_wp2_with fail
          go_ret
          exact ⟨ret_val (by rw [HF.out]; rfl), by rw [HWR.out]; exact Below.refl _ _⟩
        · have HW : Hid (wordB (B x).data.toList = true) := Lib.hid (by rw [L_B]; exact hw)
          have HN : Hid ((l.take (k + 1)).all wordB = true) := Lib.hid (all_take_succ hlt hT.out (by rw [hx]; exact hw))
          clear hw hx
          go_wp2_with fail
          refine (rword_any _ _ HS.out).mono ?_
          rintro e w' ⟨rfl, rfl⟩
          rw [HW.out]
          go_wp2_with fail
          go_roundw
          case rel => exact ⟨k + 1, by omega, by go_num, HN, HWR.out⟩
          case measure => simp [intOf]; omega
      · obtain rfl : k = l.length := by omega
        have HA : Hid (bookE l = if nodupB l = true then 0 else 6) := Lib.hid (by
          have := hT.out; rw [List.take_length] at this
          rw [HV.out, if_pos this])
        have HWR : Hid (Below w.heap.size w wr) := Lib.hid (by rw [hwr]; exact Below.refl _ _)
        clear hwr
        go_wp2_with fail
        go_loopw [6] (fun i ws => ∃ k : Nat, k ≤ l.length ∧ i = .int .i64 k ∧ Hid (nodupTo l k = true) ∧ Hid (Below w.heap.size w ws)) (fun i _ => l.length - (intOf i).toNat)
        case atStart => exact ⟨0, Nat.zero_le _, rfl, Lib.hid rfl, HWR⟩
        case round =>
          clear hT hk
          obtain ⟨k, hk, rfl, hT, hB⟩ := hrel
          by_cases hlt : k < l.length
          · obtain ⟨g, off, rfl, hg, c0⟩ := HC.out k hlt
            have hlti : (k : Int) < l.length := by omega
            have hk0 : (0 : Int) ≤ k := by omega
            obtain ⟨x, hx⟩ : ∃ x, l.getD k [] = x := ⟨_, rfl⟩
            have HX := Lib.hid hx
            rw [hx] at c0
            have HCK := Lib.hid c0
            clear c0 hx
            go_wp2_with fail
            go_loopw [7] (fun i ws => ∃ j : Nat, j ≤ k ∧ i = .int .i64 j ∧ Hid (¬ x ∈ l.take j) ∧ Hid (Below w.heap.size w ws)) (fun i _ => k - (intOf i).toNat)
            case atStart => exact ⟨0, Nat.zero_le _, rfl, Lib.hid (by simp), hB⟩
            case round =>
              obtain ⟨j, hj, rfl, hN, hB2⟩ := hrel
              by_cases hjl : j < k
              · obtain ⟨g', off', e', hg', d0⟩ := HC.out j (by omega)
                cases e'
                have hji : (j : Int) < l.length := by omega
                have hjk : (j : Int) < k := by omega
                have hj0 : (0 : Int) ≤ j := by omega
                obtain ⟨y, hy⟩ : ∃ y, l.getD j [] = y := ⟨_, rfl⟩
                rw [hy] at d0
                have c1 := (hB2.out.cell (p := ⟨g, _, none⟩) hg).trans HCK.out
                have d1 := (hB2.out.cell (p := ⟨g, _, none⟩) hg).trans d0
                clear d0
                by_cases hxy : x = y
                · have hq : (x == y) = true := by simpa using hxy
                  have HF := HOH.out 6 (by rw [HA.out, if_neg]; rw [nodupB_false hlt (by rw [HX.out, List.mem_take_iff_getElem]; exact ⟨j, by omega, by rw [hxy, ← hy, List.getD_eq_getElem?_getD, List.getElem?_eq_getElem (by omega)]; rfl⟩)]; simp) (by decide)
                  clear hxy hy
                  go_wp2_with fail
                  go_quiet (fail)
                  go_wp2_with fail
                  go_ret
                  exact ⟨ret_val (by rw [HF.out]; rfl), below_drewN hB2.out _⟩
                · have hq : (x == y) = false := by simpa using hxy
                  have HN2 : Hid (¬ x ∈ l.take (j + 1)) := Lib.hid (by rw [mem_take_succ (by omega), hy]; exact fun h => h.elim hN.out hxy)
                  clear hxy hy
                  go_wp2_with fail
                  go_quiet (fail)
                  go_wp2_with fail
                  go_roundw
                  case rel => exact ⟨j + 1, by omega, by go_num, HN2, Lib.hid (below_drewN hB2.out _)⟩
                  case measure => simp [intOf]; omega
              · obtain rfl : j = k := by omega
                have HN2 : Hid (nodupTo l (j + 1) = true) := Lib.hid (by rw [nodupTo_succ, hT.out, HX.out, decide_eq_false hN.out]; rfl)
                go_wp2_with fail
                go_roundw
                case rel => exact ⟨j + 1, by omega, by go_num, HN2, hB2⟩
                case measure => simp [intOf]; omega
          · obtain rfl : k = l.length := by omega
            have HF : Hid (orI (bookE l) (faultsE n) = faultsE n) := Lib.hid (by unfold orI; rw [HA.out, show nodupB l = true from hT.out]; rfl)
            by_cases hf : faultsE n = 0
            · have HD : Hid (decide (faultsE n = 0) = true) := Lib.hid (decide_eq_true hf)
              have HF2 : Hid (orI (bookE l) (faultsE n) = 0) := Lib.hid (HF.out.trans hf)
              clear hf
              go_wp2_with fail
              refine (rfew_any _ _).mono ?_
              rintro e w' ⟨rfl, rfl⟩
              rw [HD.out]
              go_wp2_with fail
              go_ret
              exact ⟨ret_val (by rw [HF2.out]; rfl), hB.out⟩
            · have HD : Hid (decide (faultsE n = 0) = false) := Lib.hid (decide_eq_false hf)
              have HF2 : Hid (orI (bookE l) (faultsE n) = 1) := Lib.hid (HF.out.trans (by unfold faultsE at hf ⊢; split at hf <;> simp_all))
              clear hf
              go_wp2_with fail
              refine (rfew_any _ _).mono ?_
              rintro e w' ⟨rfl, rfl⟩
              rw [HD.out]
              go_wp2_with fail
              go_ret
              exact ⟨ret_val (by rw [HF2.out]; rfl), hB.out⟩
end Go.Proofs.YtjbdmlpadoiicaaGreatDoor
