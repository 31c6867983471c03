/- What one fault makes of flashes. Plain. -/
import Derived.Test.YtgcaldceiogkaaaDoorS4
import Derived.Test.YtgcaldceiogkaaaDoorC0
namespace Go.Proofs.YtgcaldceiogkaaaDoor

theorem flat_take (s : List UInt8) : ∀ k : Nat, k ≤ s.length → (List.range k).flatMap (fun i => [s.getD i 0]) = s.take k
  | 0, _ => rfl
  | k + 1, h => by
    rw [List.range_succ, List.flatMap_append, flat_take s k (by omega), List.take_succ_eq_append_getElem (by omega)]
    simp [List.getElem?_eq_getElem (show k < s.length by omega)]
theorem flat_congr {g h : Nat → List UInt8} : ∀ k : Nat, (∀ i, i < k → g i = h i) → (List.range k).flatMap g = (List.range k).flatMap h
  | 0, _ => rfl
  | k + 1, e => by
    rw [List.range_succ, List.flatMap_append, List.flatMap_append, flat_congr k (fun i hi => e i (by omega))]
    simp [e k (by omega)]
theorem flat_mid (g : Nat → List UInt8) (s : List UInt8) (a m : Nat) (h : a + m ≤ s.length) (h1 : ∀ i, i < a → g i = [s.getD i 0]) (h2 : ∀ i, a + m ≤ i → i < s.length → g i = [s.getD i 0]) :
    (List.range s.length).flatMap g = s.take a ++ ((List.range m).flatMap fun d => g (a + d)) ++ s.drop (a + m) := by
  obtain ⟨r, hr⟩ : ∃ r, s.length = a + m + r := ⟨s.length - (a + m), by omega⟩
  rw [hr, List.range_add, List.range_add, List.flatMap_append, List.flatMap_append, List.flatMap_map, List.flatMap_map]
  rw [flat_congr a (h := fun i => [s.getD i 0]) h1, flat_take s a (by omega)]
  congr 1
  have e := flat_take (s.drop (a + m)) r (by simp; omega)
  rw [List.take_of_length_le (by simp; omega)] at e
  rw [← e]
  refine flat_congr r (fun i hi => ?_)
  rw [h2 (a + m + i) (by omega) (by omega)]
  simp [List.getElem?_drop]

theorem can_one {n : Int} {f : Flt} (h : canE n [f] = 0) : 0 ≤ f.2 ∧ f.2 ≤ n - widthZ f.1 ∧ ((f.1 = 1 ∧ widthZ f.1 = 1) ∨ (f.1 = 2 ∧ widthZ f.1 = 1) ∨ (f.1 = 3 ∧ widthZ f.1 = 2)) := by
  have h1 : errF n [] f = 0 := by
    apply Classical.byContradiction
    intro hc
    unfold canE canFrom at h
    rw [if_neg hc] at h
    exact hc h
  unfold errF at h1
  split at h1
  · cases h1
  · rename_i hc
    refine ⟨by omega, by omega, ?_⟩
    have hw : widthZ f.1 ≠ 0 := by omega
    unfold widthZ at hw ⊢
    split at hw
    · rename_i e; rw [if_pos e]; omega
    · rename_i e; rw [if_neg e]
      split at hw
      · rename_i e3; rw [if_pos e3]; exact .inr (.inr ⟨e3, rfl⟩)
      · exact absurd rfl hw
theorem at_one (f : Flt) (p : Int) : at? [f] p = if covers p f then f else (0, 0) := by
  unfold at?
  cases h : covers p f <;> simp [h]
theorem piece_no {s : List UInt8} {f : Flt} {i : Nat} (h : covers i f = false) : pieceL s [f] i = [s.getD i 0] := by
  unfold pieceL; rw [at_one, h]; rfl
theorem covers_no {f : Flt} {p : Int} (h1 : f.2 ≠ p) (h2 : f.1 = 3 → f.2 + 1 ≠ p) : covers p f = false := by
  unfold covers
  rw [decide_eq_false h1]
  by_cases h : f.1 = 3
  · rw [decide_eq_false (h2 h)]; simp
  · rw [decide_eq_false h]; simp
theorem covers_at {f : Flt} {p : Int} (h : f.2 = p) : covers p f = true := by unfold covers; rw [decide_eq_true h]; rfl
theorem covers_at' {f : Flt} {p : Int} (h : f.1 = 3) (h' : f.2 + 1 = p) : covers p f = true := by unfold covers; rw [decide_eq_true h, decide_eq_true h']; simp

theorem fault_parts {s : List UInt8} {f : Flt} (h : canE s.length [f] = 0) : Parts1 (splitB 47 s) (splitB 47 (faultedL s [f])) := by
  obtain ⟨h0, h1, hk⟩ := can_one h
  obtain ⟨a, ha⟩ : ∃ a : Nat, f.2 = a := ⟨f.2.toNat, by omega⟩
  unfold faultedL faultedK
  rcases hk with ⟨k, hw⟩ | ⟨k, hw⟩ | ⟨k, hw⟩
  · rw [hw] at h1
    have hal : a < s.length := by omega
    rw [flat_mid (pieceL s [f]) s a 1 (by omega) (fun i hi => piece_no (covers_no (by omega) (by omega))) (fun i hi hl => piece_no (covers_no (by omega) (by omega)))]
    have e : pieceL s [f] a = [] := by unfold pieceL; rw [at_one, covers_at ha]; simp [k]
    have hs : s = s.take a ++ s[a] :: s.drop (a + 1) := by rw [← List.drop_eq_getElem_cons hal, List.take_append_drop]
    have := lost_parts (s.take a) s[a] (s.drop (a + 1))
    rw [← hs] at this
    simpa [e] using this
  · rw [hw] at h1
    have hal : a < s.length := by omega
    rw [flat_mid (pieceL s [f]) s a 1 (by omega) (fun i hi => piece_no (covers_no (by omega) (by omega))) (fun i hi hl => piece_no (covers_no (by omega) (by omega)))]
    have e : pieceL s [f] a = [s[a], s[a]] := by unfold pieceL; rw [at_one, covers_at ha]; simp [k, List.getElem?_eq_getElem hal]
    have hs : s = s.take a ++ s[a] :: s.drop (a + 1) := by rw [← List.drop_eq_getElem_cons hal, List.take_append_drop]
    have := doub_parts (s.take a) s[a] (s.drop (a + 1))
    rw [← hs] at this
    simpa [e] using this
  · rw [hw] at h1
    have hal : a < s.length := by omega
    have hal' : a + 1 < s.length := by omega
    rw [flat_mid (pieceL s [f]) s a 2 (by omega) (fun i hi => piece_no (covers_no (by omega) (by omega))) (fun i hi hl => piece_no (covers_no (by omega) (by omega)))]
    have e0 : pieceL s [f] a = [s[a + 1]] := by
      unfold pieceL; rw [at_one, covers_at ha]
      simp only [if_true, k]
      rw [show (2 * f.2 + 1 - (a : Int)).toNat = a + 1 by omega]
      simp [List.getElem?_eq_getElem hal']
    have e1 : pieceL s [f] (a + 1) = [s[a]] := by
      unfold pieceL; rw [at_one, covers_at' k (by omega)]
      simp only [if_true, k]
      rw [show (2 * f.2 + 1 - ((a + 1 : Nat) : Int)).toNat = a by omega]
      simp [List.getElem?_eq_getElem hal]
    have hs : s = s.take a ++ s[a] :: s[a + 1] :: s.drop (a + 2) := by rw [← List.drop_eq_getElem_cons hal', ← List.drop_eq_getElem_cons hal, List.take_append_drop]
    have := swap_parts (s.take a) s[a] s[a + 1] (s.drop (a + 2))
    rw [← hs] at this
    have er : (List.range 2).flatMap (fun d => pieceL s [f] (a + d)) = [s[a + 1], s[a]] := by
      rw [show List.range 2 = [0, 1] from rfl]; simp [e0, e1]
    rw [er]
    simpa using this
/-- P1.10: one fault is noticed. -/
theorem noticed_plain {w x : List UInt8} {f : Flt} (hw : wordB w = true) (hx : wordB x = true) (hc : canE (signalL w).length [f] = 0) (he : signalL x = faultedL (signalL w) [f]) : signalL x = signalL w := by
  refine noticed_parts hw hx ?_
  rw [← split_signal, ← split_signal, he]
  exact fault_parts hc
end Go.Proofs.YtgcaldceiogkaaaDoor
