/- The reference's kind and touched. -/
import Derived.Test.YtgcaldceiogkaaaDoorP6
import Derived.Test.YtgcaldceiogkaaaDoorC1
namespace Go.Proofs.YtgcaldceiogkaaaDoor
open Go.RowKit Go.Shelf

/-- The kind of the first fault that begins at a flash. -/
def kindR (l : List Flt) (p : Int) : Int := ((l.find? (fun f => decide (f.2 = p))).getD (0, 0)).1
theorem find_take {α : Type} (q : α → Bool) : ∀ (l : List α) (k : Nat), k < l.length → (∀ j (h : j < l.length), j < k → q l[j] = false) → (h : k < l.length) → q l[k] = true → l.find? q = some l[k]
  | f :: l, 0, _, _, _, h => by simp at h; simp [h]
  | f :: l, k + 1, hk, hn, h, hq => by
    have h0 := hn 0 (by simp) (by omega)
    simp at h0 hq
    have := find_take q l k (by simpa using hk) (fun j hj hjk => by have := hn (j + 1) (by simpa using hj) (by omega); simpa using this) (by simpa using hk) hq
    simp [h0, this]

theorem rkind_any (v : Value) (l : List Flt) (p : Int) (w : World) (hv : FRow w v l) (hl : l.length ≤ 1000000) :
    Calls Tryd.prog 60 #[v, .int .i64 p] w fun e w' => e = .returned (.int .i64 (kindR l p)) ∧ w = w' := by
  obtain ⟨a, cap, rfl, hc⟩ := hv.form
  have HC := Lib.hid hc
  clear hc hv
  go_enter Tryd.func60, Tryd.ntmps60
  go_wp2_with fail
  go_loop [5] (fun i => ∃ k : Nat, k ≤ l.length ∧ i = .int .i64 k ∧ Hid (∀ j (h : j < l.length), j < k → decide (l[j].2 = p) = false)) (fun i => l.length - (intOf i).toNat)
  case atStart => exact ⟨0, Nat.zero_le _, rfl, Lib.hid (fun j _ hj => by omega)⟩
  case round =>
    obtain ⟨k, hk, rfl, hno⟩ := hrel
    by_cases hlt : k < l.length
    · obtain ⟨b, off, rfl, hbw, hc0, hc1⟩ := HC.out k hlt
      have hlti : (k : Int) < l.length := by omega
      have eg : l.getD k (0, 0) = l[k] := by rw [List.getD_eq_getElem?_getD, List.getElem?_eq_getElem hlt]; rfl
      rw [eg] at hc0 hc1
      obtain ⟨kd, ekd⟩ : ∃ kd, l[k].1 = kd := ⟨_, rfl⟩
      obtain ⟨ad, ead⟩ : ∃ ad, l[k].2 = ad := ⟨_, rfl⟩
      rw [ekd] at hc0
      rw [ead] at hc1
      by_cases hap : ad = p
      · have hq : (ad == p) = true := by simpa using hap
        have HK : Hid (kindR l p = kd) := Lib.hid (by
          unfold kindR
          rw [find_take _ l k hlt (fun j h hj => hno.out j h hj) hlt (by simp [ead, hap])]
          exact ekd)
        clear hap ekd ead eg
        go_wp2_with fail
        go_ret
        exact ⟨ret_int HK.out.symm, rfl⟩
      · have hq : (ad == p) = false := by simpa using hap
        have HN : Hid (∀ j (h : j < l.length), j < k + 1 → decide (l[j].2 = p) = false) := Lib.hid (fun j h hj => by
          by_cases e : j = k
          · subst e; rw [ead]; exact decide_eq_false hap
          · exact hno.out j h (by omega))
        clear hap ekd ead eg
        go_wp2_with fail
        go_round
        case rel => exact ⟨k + 1, by omega, by go_num, HN⟩
        case measure => simp [intOf]; omega
    · obtain rfl : k = l.length := by omega
      have HK : Hid (kindR l p = 0) := Lib.hid (by
        unfold kindR
        rw [List.find?_eq_none.2 (fun x hx => by
          obtain ⟨j, hj, rfl⟩ := List.getElem_of_mem hx
          have := hno.out j hj hj
          simpa using this)]
        rfl)
      go_wp2_with fail
      go_ret
      exact ⟨ret_int HK.out.symm, rfl⟩

/-- In how many faults a flash is. -/
def touchR (l : List Flt) (p : Int) : Nat := l.countP (covers p)
theorem count_take (q : Flt → Bool) (l : List Flt) (k : Nat) (h : k < l.length) : (l.take (k + 1)).countP q = (l.take k).countP q + (if q l[k] then 1 else 0) := by
  rw [List.take_succ_eq_append_getElem h, List.countP_append]; simp [List.countP_cons]

theorem rtouched_any (v : Value) (l : List Flt) (p : Int) (w : World) (hv : FRow w v l) (hl : l.length ≤ 1000000) (hp0 : 0 ≤ p) (hp1 : p ≤ 1000) :
    Calls Tryd.prog 59 #[v, .int .i64 p] w fun e w' => e = .returned (.int .i64 (touchR l p)) ∧ w = w' := by
  obtain ⟨a, cap, rfl, hc⟩ := hv.form
  have HC := Lib.hid hc
  clear hc hv
  go_enter Tryd.func59, Tryd.ntmps59
  go_wp2_with fail
  go_loop [5, 6] (fun n i => ∃ (k m : Nat), k ≤ l.length ∧ i = .int .i64 k ∧ n = .int .i64 m ∧ m ≤ k ∧ Hid ((l.take k).countP (covers p) = m)) (fun _ i => l.length - (intOf i).toNat)
  case atStart => exact ⟨0, 0, Nat.zero_le _, rfl, rfl, Nat.le_refl _, Lib.hid rfl⟩
  case round =>
    obtain ⟨k, m, hk, rfl, rfl, hm, hcnt⟩ := hrel
    by_cases hlt : k < l.length
    · obtain ⟨b, off, rfl, hbw, hc0, hc1⟩ := HC.out k hlt
      have hlti : (k : Int) < l.length := by omega
      have eg : l.getD k (0, 0) = l[k] := by rw [List.getD_eq_getElem?_getD, List.getElem?_eq_getElem hlt]; rfl
      rw [eg] at hc0 hc1
      have hct := count_take (covers p) l k hlt
      obtain ⟨kd, ekd⟩ : ∃ kd, l[k].1 = kd := ⟨_, rfl⟩
      obtain ⟨ad, ead⟩ : ∃ ad, l[k].2 = ad := ⟨_, rfl⟩
      have hcv : covers p l[k] = (decide (ad = p) || decide (kd = 3) && decide (ad + 1 = p)) := by unfold covers; rw [ekd, ead]
      rw [ekd] at hc0
      rw [ead] at hc1
      rw [hcv, hcnt.out] at hct
      by_cases hap : ad = p
      · have hq : (ad == p) = true := by simpa using hap
        have HN : Hid ((l.take (k + 1)).countP (covers p) = m + 1) := Lib.hid (by rw [hct]; simp [hap])
        clear hap ekd ead eg hct hcv
        go_wp2_with fail
        go_round
        case rel => exact ⟨k + 1, m + 1, by omega, by go_num, by go_num, by omega, HN⟩
        case measure => simp [intOf]; omega
      · have hq : (ad == p) = false := by simpa using hap
        by_cases hk3 : kd = 3
        · have hq3 : (kd == 3) = true := by simpa using hk3
          by_cases hap1 : ad + 1 = p
          · have hq4 : (ad == p - 1) = true := by simp; omega
            have HN : Hid ((l.take (k + 1)).countP (covers p) = m + 1) := Lib.hid (by rw [hct]; simp [hk3, hap1])
            clear hap ekd ead eg hct hcv hk3 hap1
            go_wp2_with fail
            go_round
            case rel => exact ⟨k + 1, m + 1, by omega, by go_num, by go_num, by omega, HN⟩
            case measure => simp [intOf]; omega
          · have hq4 : (ad == p - 1) = false := by rw [beq_eq_false_iff_ne]; omega
            have HN : Hid ((l.take (k + 1)).countP (covers p) = m) := Lib.hid (by rw [hct]; simp [hap, hap1])
            clear hap ekd ead eg hct hcv hk3 hap1
            go_wp2_with fail
            go_round
            case rel => exact ⟨k + 1, m, by omega, by go_num, rfl, by omega, HN⟩
            case measure => simp [intOf]; omega
        · have hq3 : (kd == 3) = false := by simpa using hk3
          have HN : Hid ((l.take (k + 1)).countP (covers p) = m) := Lib.hid (by rw [hct]; simp [hap, hk3])
          clear hap ekd ead eg hct hcv hk3
          go_wp2_with fail
          go_round
          case rel => exact ⟨k + 1, m, by omega, by go_num, rfl, by omega, HN⟩
          case measure => simp [intOf]; omega
    · obtain rfl : k = l.length := by omega
      have HK : Hid ((touchR l p : Int) = m) := Lib.hid (by have := hcnt.out; rw [List.take_length] at this; unfold touchR; rw [this])
      go_wp2_with fail
      go_ret
      exact ⟨ret_int HK.out.symm, rfl⟩
end Go.Proofs.YtgcaldceiogkaaaDoor
