/- Ways in which flashes become others: parts one behind the other, with the faults among them. Plain. -/
import Derived.Test.YtjbdmlpadoiicaaGreatDoorE3
import Derived.Test.YtjbdmlpadoiicaaGreatDoorP9a
import Derived.Test.YtjbdmlpadoiicaaGreatDoorR0
import Derived.Test.YtjbdmlpadoiicaaGreatDoorF0
set_option linter.unusedVariables false
set_option linter.unusedSimpArgs false
namespace Go.Proofs.YtjbdmlpadoiicaaGreatDoor

/-- The first i flashes of s become the first j of r by the faults l. -/
inductive Pre (s r : List UInt8) : Nat → Nat → List Flt → Prop
  | nil : Pre s r 0 0 []
  | same {i j : Nat} {l : List Flt} : Pre s r i j l → i < s.length → j < r.length → s.getD i 0 = r.getD j 0 → Pre s r (i + 1) (j + 1) l
  | lost {i j : Nat} {l : List Flt} : Pre s r i j l → i < s.length → Pre s r (i + 1) j (l ++ [(1, (i : Int))])
  | twice {i j : Nat} {l : List Flt} : Pre s r i j l → i < s.length → j + 1 < r.length → s.getD i 0 = r.getD j 0 → s.getD i 0 = r.getD (j + 1) 0 → Pre s r (i + 1) (j + 2) (l ++ [(2, (i : Int))])
  | swap {i j : Nat} {l : List Flt} : Pre s r i j l → i + 1 < s.length → j + 1 < r.length → s.getD i 0 = r.getD (j + 1) 0 → s.getD (i + 1) 0 = r.getD j 0 → Pre s r (i + 2) (j + 2) (l ++ [(3, (i : Int))])

theorem Pre.bd {s r : List UInt8} {i j : Nat} {l : List Flt} (h : Pre s r i j l) : i ≤ s.length ∧ j ≤ r.length ∧ j ≤ 2 * i ∧ l.length ≤ i := by
  induction h with
  | nil => simp
  | same _ h1 h2 _ ih => omega
  | lost _ h1 ih => simp only [List.length_append, List.length_cons, List.length_nil]; omega
  | twice _ h1 h2 _ _ ih => simp only [List.length_append, List.length_cons, List.length_nil]; omega
  | swap _ h1 h2 _ _ ih => simp only [List.length_append, List.length_cons, List.length_nil]; omega

/-! ### The table of package beam -/
theorem sheetT_low (s r : List UInt8) (most : Int) : ∀ (k i : Nat), i ≤ k → k ≤ s.length → ∀ j, sheetT s r most k i j = sheetT s r most i i j
  | 0, i, hi, _, j => by obtain rfl : i = 0 := by omega
                         rfl
  | k + 1, i, hi, hk, j => by
    by_cases e : i = k + 1
    · subst e; rfl
    · have : sheetT s r most (k + 1) i j = sheetT s r most k i j := by
        show nextT (sheetT s r most k) (s.take (k + 1)) r most i j = _
        unfold nextT
        rw [if_neg (by rw [List.length_take]; omega)]
      rw [this]; exact sheetT_low s r most k i (by omega) (by omega) j
theorem sheetT_high (s r : List UInt8) (most : Int) : ∀ (k i : Nat), k < i → k ≤ s.length → ∀ j, sheetT s r most k i j = 200
  | 0, i, hi, _, j => by show T0 i j = 200; unfold T0; rw [if_neg (by omega)]
  | k + 1, i, hi, hk, j => by
    show nextT (sheetT s r most k) (s.take (k + 1)) r most i j = _
    unfold nextT
    rw [if_neg (by rw [List.length_take]; omega)]
    exact sheetT_high s r most k i (by omega) (by omega) j
theorem getD_take (s : List UInt8) (k a : Nat) (h : a < k) : (s.take k).getD a 0 = s.getD a 0 := by
  rw [List.getD_eq_getElem?_getD, List.getD_eq_getElem?_getD, List.getElem?_take_of_lt h]
/-- The numbers when all is sent. -/
def dT (s r : List UInt8) (i j : Nat) : Int := sheetT s r s.length s.length i j
theorem endI_low {s r : List UInt8} {i : Nat} (hi : i < s.length) (kd j : Nat) : endI (sheetT s r s.length i) (s.take (i + 1)) r kd (i + 1) j = endI (dT s r) s r kd (i + 1) j := by
  have hT : ∀ a b, a ≤ i → sheetT s r s.length i a b = dT s r a b := fun a b ha => by
    unfold dT
    rw [sheetT_low s r s.length s.length a (by omega) (Nat.le_refl _), sheetT_low s r s.length i a ha (by omega)]
  unfold endI
  rw [getD_take s (i + 1) (i + 1 - 1) (by omega), getD_take s (i + 1) (i + 1 - 2) (by omega), hT _ _ (by omega), hT _ _ (by omega), hT _ _ (by omega), hT _ _ (by omega)]
theorem minK_low {s r : List UInt8} {i : Nat} (hi : i < s.length) (j : Nat) : ∀ k, minK (sheetT s r s.length i) (s.take (i + 1)) r (i + 1) j k = minK (dT s r) s r (i + 1) j k
  | 0 => rfl
  | k + 1 => by simp only [minK]; rw [minK_low hi j k, endI_low hi]
theorem dT_zero (s r : List UInt8) (j : Nat) : dT s r 0 j = if j = 0 then 0 else 200 := by
  unfold dT
  rw [sheetT_low s r s.length s.length 0 (by omega) (Nat.le_refl _)]
  show T0 0 j = _
  unfold T0; simp
theorem dT_succ {s r : List UInt8} {i : Nat} (hi : i < s.length) (j : Nat) : dT s r (i + 1) j = if inBand s.length r.length (i + 1) j = true then minK (dT s r) s r (i + 1) j 4 else 200 := by
  unfold dT
  rw [sheetT_low s r s.length s.length (i + 1) (by omega) (Nat.le_refl _)]
  show nextT (sheetT s r s.length i) (s.take (i + 1)) r s.length (i + 1) j = _
  unfold nextT
  have hl : (s.take (i + 1)).length = i + 1 := by rw [List.length_take]; omega
  by_cases hb : inBand s.length r.length (i + 1) j = true
  · rw [if_pos ⟨hl.symm, hb⟩, if_pos hb, minK_low hi]; rfl
  · rw [if_neg (fun h => hb h.2), if_neg hb]; exact sheetT_high s r _ i (i + 1) (by omega) (by omega) j
theorem minK_le (T : Nat → Nat → Int) (s r : List UInt8) (i j : Nat) : minK T s r i j 4 ≤ 200 ∧ (∀ kd : Nat, kd < 4 → minK T s r i j 4 ≤ endI T s r kd i j) ∧ (minK T s r i j 4 = 200 ∨ ∃ kd : Nat, kd < 4 ∧ minK T s r i j 4 = endI T s r kd i j) := by
  have h : ∀ k : Nat, minK T s r i j k ≤ 200 ∧ (∀ kd : Nat, kd < k → minK T s r i j k ≤ endI T s r kd i j) ∧ (minK T s r i j k = 200 ∨ ∃ kd : Nat, kd < k ∧ minK T s r i j k = endI T s r kd i j) := by
    intro k
    induction k with
    | zero => exact ⟨by simp [minK], fun kd h => by omega, .inl rfl⟩
    | succ k ih =>
      obtain ⟨h1, h2, h3⟩ := ih
      have e : minK T s r i j (k + 1) = min (minK T s r i j k) (endI T s r k i j) := rfl
      rw [e]
      refine ⟨by omega, fun kd hk => ?_, ?_⟩
      · by_cases c : kd = k
        · subst c; omega
        · have := h2 kd (by omega); omega
      · by_cases c : minK T s r i j k ≤ endI T s r k i j
        · rw [Int.min_eq_left c]
          rcases h3 with h3 | ⟨kd, hk, h3⟩
          · exact .inl h3
          · exact .inr ⟨kd, by omega, h3⟩
        · rw [Int.min_eq_right (by omega)]
          exact .inr ⟨k, by omega, rfl⟩
  exact h 4
theorem band_of {n m i j : Nat} (h1 : i ≤ n) (h2 : j ≤ m) (h3 : j ≤ 2 * i) : inBand n m i j = true := by
  unfold inBand; simp only [Bool.and_eq_true, decide_eq_true_eq]; omega

/-- What an end with a part is: the number of the place before it, if the part fits there. -/
theorem end_same {s r : List UInt8} {i j : Nat} : endI (dT s r) s r 0 (i + 1) (j + 1) = if s.getD i 0 = r.getD j 0 then dT s r i j else 200 := by
  unfold endI; rw [if_pos rfl, if_neg (by omega)]; rfl
theorem end_lost {s r : List UInt8} {i j : Nat} : endI (dT s r) s r 1 (i + 1) j = dT s r i j + 1 := by
  unfold endI; rw [if_neg (by decide), if_pos rfl, if_neg (by omega)]; rfl
theorem end_twice {s r : List UInt8} {i j : Nat} : endI (dT s r) s r 2 (i + 1) (j + 2) = if s.getD i 0 = r.getD j 0 ∧ s.getD i 0 = r.getD (j + 1) 0 then dT s r i j + 1 else 200 := by
  unfold endI; rw [if_neg (by decide), if_neg (by decide), if_pos rfl, if_neg (by omega)]; rfl
theorem end_swap {s r : List UInt8} {i j : Nat} : endI (dT s r) s r 3 (i + 2) (j + 2) = if s.getD i 0 = r.getD (j + 1) 0 ∧ s.getD (i + 1) 0 = r.getD j 0 then dT s r i j + 1 else 200 := by
  unfold endI; rw [if_neg (by decide), if_neg (by decide), if_neg (by decide), if_neg (by omega)]; rfl

theorem Pre.least {s r : List UInt8} {i j : Nat} {l : List Flt} (h : Pre s r i j l) : dT s r i j ≤ l.length := by
  have step : ∀ {i' j' : Nat} (kd : Nat) (l' : List Flt), kd < 4 → i' < s.length → Pre s r (i' + 1) j' l' → endI (dT s r) s r kd (i' + 1) j' ≤ l'.length → dT s r (i' + 1) j' ≤ l'.length := by
    intro i' j' kd l' hk hi hp he
    have hb := hp.bd
    rw [dT_succ hi, if_pos (band_of hb.1 hb.2.1 hb.2.2.1)]
    have := (minK_le (dT s r) s r (i' + 1) j').2.1 kd hk
    omega
  induction h with
  | nil => rw [dT_zero]; simp
  | same h h1 h2 h3 ih => exact step 0 _ (by decide) h1 (.same h h1 h2 h3) (by rw [end_same, if_pos h3]; exact ih)
  | lost h h1 ih => exact step 1 _ (by decide) h1 (.lost h h1) (by rw [end_lost]; simp; omega)
  | twice h h1 h2 h3 h4 ih => exact step 2 _ (by decide) h1 (.twice h h1 h2 h3 h4) (by rw [end_twice, if_pos ⟨h3, h4⟩]; simp; omega)
  | swap h h1 h2 h3 h4 ih => exact step 3 _ (by decide) h1 (.swap h h1 h2 h3 h4) (by rw [end_swap, if_pos ⟨h3, h4⟩]; simp; omega)

theorem dT_bd {s r : List UInt8} : ∀ (i j : Nat), i ≤ s.length → 0 ≤ dT s r i j ∧ dT s r i j ≤ 200 := by
  intro i
  induction i using Nat.strongRecOn with
  | _ i ih =>
    intro j hi
    cases i with
    | zero => rw [dT_zero]; split <;> omega
    | succ i =>
      rw [dT_succ (by omega)]
      split
      · have h := minK_le (dT s r) s r (i + 1) j
        refine ⟨?_, h.1⟩
        rcases h.2.2 with e | ⟨kd, hk, e⟩
        · omega
        · rw [e]
          have g1 := ih i (by omega)
          unfold endI
          split
          · split
            · omega
            · split
              · exact (g1 _ (by omega)).1
              · omega
          · split
            · split
              · omega
              · have := (g1 j (by omega)).1; simp only [Nat.add_sub_cancel]; omega
            · split
              · split
                · omega
                · split
                  · have := (g1 (j - 2) (by omega)).1; simp only [Nat.add_sub_cancel]; omega
                  · omega
              · split
                · omega
                · split
                  · have := (ih (i + 1 - 2) (by omega) (j - 2) (by omega)).1; omega
                  · omega
      · omega
/-- A place whose number is not too great is reached by a part from a place before it. -/
theorem part_of {s r : List UInt8} {i j : Nat} (hi : 0 < i) (hin : i ≤ s.length) (hlt : dT s r i j < 200) :
    inBand s.length r.length i j = true ∧ dT s r i j = minK (dT s r) s r i j 4 := by
  obtain ⟨k, rfl⟩ : ∃ k, i = k + 1 := ⟨i - 1, by omega⟩
  rw [dT_succ (by omega)] at hlt ⊢
  split at hlt
  · rename_i hb; exact ⟨hb, by rw [if_pos hb]⟩
  · omega
/-- How a part of a kind leads from the place (i', j') to (i, j). -/
def partTo (s r : List UInt8) (kd i' j' i j : Nat) : Prop :=
  (kd = 0 ∧ i = i' + 1 ∧ j = j' + 1 ∧ i' < s.length ∧ j' < r.length ∧ s.getD i' 0 = r.getD j' 0) ∨
  (kd = 1 ∧ i = i' + 1 ∧ j = j' ∧ i' < s.length) ∨
  (kd = 2 ∧ i = i' + 1 ∧ j = j' + 2 ∧ i' < s.length ∧ j' + 1 < r.length ∧ s.getD i' 0 = r.getD j' 0 ∧ s.getD i' 0 = r.getD (j' + 1) 0) ∨
  (kd = 3 ∧ i = i' + 2 ∧ j = j' + 2 ∧ i' + 1 < s.length ∧ j' + 1 < r.length ∧ s.getD i' 0 = r.getD (j' + 1) 0 ∧ s.getD (i' + 1) 0 = r.getD j' 0)
def fltOf (kd i' : Nat) : List Flt := if kd = 0 then [] else [((kd : Int), (i' : Int))]
theorem Pre.part {s r : List UInt8} {kd i' j' i j : Nat} {l : List Flt} (h : Pre s r i' j' l) (hp : partTo s r kd i' j' i j) : Pre s r i j (l ++ fltOf kd i') := by
  rcases hp with ⟨rfl, rfl, rfl, h1, h2, h3⟩ | ⟨rfl, rfl, rfl, h1⟩ | ⟨rfl, rfl, rfl, h1, h2, h3, h4⟩ | ⟨rfl, rfl, rfl, h1, h2, h3, h4⟩
  · unfold fltOf; rw [if_pos rfl, List.append_nil]; exact .same h h1 h2 h3
  · exact .lost h h1
  · exact .twice h h1 h2 h3 h4
  · exact .swap h h1 h2 h3 h4
theorem endI_part {s r : List UInt8} {kd i j : Nat} (hk : kd < 4) (hin : i ≤ s.length) (hj : j ≤ r.length) (hlt : endI (dT s r) s r kd i j < 200) :
    ∃ i' j', partTo s r kd i' j' i j ∧ endI (dT s r) s r kd i j = dT s r i' j' + (if kd = 0 then 0 else 1) ∧ (i : Int) = i' + psN kd ∧ (j : Int) = j' + prN kd := by
  rcases (by omega : kd = 0 ∨ kd = 1 ∨ kd = 2 ∨ kd = 3) with rfl | rfl | rfl | rfl
  · by_cases c : i < 1 ∨ j < 1
    · unfold endI at hlt; rw [if_pos rfl, if_pos c] at hlt; omega
    · obtain ⟨i', rfl⟩ : ∃ k, i = k + 1 := ⟨i - 1, by omega⟩
      obtain ⟨j', rfl⟩ : ∃ k, j = k + 1 := ⟨j - 1, by omega⟩
      rw [end_same] at hlt ⊢
      split at hlt
      · rename_i he
        exact ⟨i', j', .inl ⟨rfl, rfl, rfl, by omega, by omega, he⟩, by rw [if_pos he]; simp, by simp [psN], by simp [prN]⟩
      · omega
  · by_cases c : i < 1
    · unfold endI at hlt; rw [if_neg (by decide), if_pos rfl, if_pos c] at hlt; omega
    · obtain ⟨i', rfl⟩ : ∃ k, i = k + 1 := ⟨i - 1, by omega⟩
      rw [end_lost]
      exact ⟨i', j, .inr (.inl ⟨rfl, rfl, rfl, by omega⟩), by simp, by simp [psN], by simp [prN]⟩
  · by_cases c : i < 1 ∨ j < 2
    · unfold endI at hlt; rw [if_neg (by decide), if_neg (by decide), if_pos rfl, if_pos c] at hlt; omega
    · obtain ⟨i', rfl⟩ : ∃ k, i = k + 1 := ⟨i - 1, by omega⟩
      obtain ⟨j', rfl⟩ : ∃ k, j = k + 2 := ⟨j - 2, by omega⟩
      rw [end_twice] at hlt ⊢
      split at hlt
      · rename_i he
        exact ⟨i', j', .inr (.inr (.inl ⟨rfl, rfl, rfl, by omega, by omega, he.1, he.2⟩)), by rw [if_pos he]; simp, by simp [psN], by simp [prN]⟩
      · omega
  · by_cases c : i < 2 ∨ j < 2
    · unfold endI at hlt; rw [if_neg (by decide), if_neg (by decide), if_neg (by decide), if_pos c] at hlt; omega
    · obtain ⟨i', rfl⟩ : ∃ k, i = k + 2 := ⟨i - 2, by omega⟩
      obtain ⟨j', rfl⟩ : ∃ k, j = k + 2 := ⟨j - 2, by omega⟩
      rw [end_swap] at hlt ⊢
      split at hlt
      · rename_i he
        exact ⟨i', j', .inr (.inr (.inr ⟨rfl, rfl, rfl, by omega, by omega, he.1, he.2⟩)), by rw [if_pos he]; simp, by simp [psN], by simp [prN]⟩
      · omega
theorem band_le {n m i j : Nat} (h : inBand n m i j = true) : j ≤ m := by
  unfold inBand at h; simp only [Bool.and_eq_true, decide_eq_true_eq] at h; omega
theorem fltOf_length (kd i : Nat) : ((fltOf kd i).length : Int) = if kd = 0 then 0 else 1 := by unfold fltOf; split <;> rfl
/-- A number below 200 is reached by so many faults. -/
theorem dT_reached {s r : List UInt8} : ∀ (i j : Nat), i ≤ s.length → dT s r i j < 200 → ∃ l, Pre s r i j l ∧ (l.length : Int) = dT s r i j := by
  intro i
  induction i using Nat.strongRecOn with
  | _ i ih =>
    intro j hin hlt
    by_cases h0 : i = 0
    · subst h0
      rw [dT_zero] at hlt ⊢
      split at hlt
      · rename_i e; subst e; exact ⟨[], .nil, rfl⟩
      · omega
    · obtain ⟨hb, hm⟩ := part_of (by omega) hin hlt
      rw [hm] at hlt ⊢
      rcases (minK_le (dT s r) s r i j).2.2 with e | ⟨kd, hk, e⟩
      · omega
      · rw [e] at hlt ⊢
        obtain ⟨i', j', hp, he, h1, h2⟩ := endI_part hk hin (band_le hb) hlt
        have hps : psN kd = 1 ∨ psN kd = 2 := by unfold psN; split <;> simp
        obtain ⟨l, hl, hc⟩ := ih i' (by omega) j' (by omega) (by rw [he] at hlt; split at hlt <;> omega)
        refine ⟨_, hl.part hp, ?_⟩
        rw [he, List.length_append, Int.natCast_add, hc, fltOf_length]

/-! ### What such faults make of the flashes -/
theorem any_covers_lt {l : List Flt} {i : Nat} (h : ∀ f ∈ l, widthZ f.1 ≠ 0 ∧ 0 ≤ f.2 ∧ f.2 + widthZ f.1 ≤ i) {p : Int} (hp : (i : Int) ≤ p) : l.any (covers p) = false := by
  rw [List.any_eq_false]
  rintro ⟨k, a⟩ hf hc
  obtain ⟨h1, h2, h3⟩ := h _ hf
  have := (covers_iff (k := k) (a := a) h1).1 hc
  simp only at h3
  omega
theorem piece_snoc_low {s : List UInt8} {l : List Flt} {f : Flt} {p : Nat} (h : covers (p : Int) f = false) : pieceL s (l ++ [f]) p = pieceL s l p := by
  have : at? (l ++ [f]) (p : Int) = at? l (p : Int) := by
    rw [at_snoc]
    by_cases c : l.any (covers (p : Int)) = true
    · rw [if_pos c]
    · rw [if_neg c, h, at_none l _ (by simpa using c)]; rfl
  unfold pieceL; rw [this]
theorem faultedK_congr {s : List UInt8} {l l' : List Flt} : ∀ k : Nat, (∀ p : Nat, p < k → pieceL s l p = pieceL s l' p) → faultedK s l k = faultedK s l' k
  | 0, _ => rfl
  | k + 1, h => by rw [faultedK_succ, faultedK_succ, faultedK_congr k (fun p hp => h p (by omega)), h k (by omega)]
theorem covers_no' {k a p : Int} (hw : widthZ k ≠ 0) (h : p < a ∨ a + widthZ k ≤ p) : covers p (k, a) = false := by
  cases hc : covers p (k, a) with
  | false => rfl
  | true => have := (covers_iff hw).1 hc; omega
theorem faultedK_snoc {s : List UInt8} {l : List Flt} {k : Int} {i : Nat} (hw : widthZ k ≠ 0) : faultedK s (l ++ [(k, (i : Int))]) i = faultedK s l i :=
  faultedK_congr i (fun p hp => piece_snoc_low (covers_no' hw (.inl (by omega))))
theorem at_new {l : List Flt} {i : Nat} (h : ∀ f ∈ l, widthZ f.1 ≠ 0 ∧ 0 ≤ f.2 ∧ f.2 + widthZ f.1 ≤ i) {f : Flt} {p : Int} (hp : (i : Int) ≤ p) (hc : covers p f = true) : at? (l ++ [f]) p = f := by
  rw [at_snoc, any_covers_lt h hp, hc]; rfl
theorem errF_new {n : Int} {l : List Flt} {i : Nat} (h : ∀ f ∈ l, widthZ f.1 ≠ 0 ∧ 0 ≤ f.2 ∧ f.2 + widthZ f.1 ≤ i) {k : Int} (hw : widthZ k ≠ 0) (hn : (i : Int) + widthZ k ≤ n) : errF n l (k, (i : Int)) = 0 :=
  errF_ok (by omega) (fun m h0 _ => any_covers_lt h (by omega))
theorem canE_snoc {n : Int} {l : List Flt} {f : Flt} (h : canE n l = 0) (hf : errF n l f = 0) : canE n (l ++ [f]) = 0 := by
  refine canE_ok n _ (fun j hj => ?_)
  by_cases c : j < l.length
  · rw [List.take_append_of_le_length (by omega), List.getElem_append_left c]; exact can_apart h j c
  · have e : j = l.length := by simp at hj; omega
    subst e
    rw [List.take_left, List.getElem_append_right (Nat.le_refl _)]
    simpa using hf

/-- What the faults of a way make of the first i flashes are the first j of what is received. -/
theorem Pre.made {s r : List UInt8} {i j : Nat} {l : List Flt} (h : Pre s r i j l) :
    (∀ f ∈ l, widthZ f.1 ≠ 0 ∧ 0 ≤ f.2 ∧ f.2 + widthZ f.1 ≤ i) ∧ canE s.length l = 0 ∧ faultedK s l i = r.take j ∧ l.Pairwise (fun f g => f.2 < g.2) := by
  have tk : ∀ j, j < r.length → r.take (j + 1) = r.take j ++ [r.getD j 0] := fun j hj => by
    rw [List.take_succ_eq_append_getElem hj, List.getD_eq_getElem?_getD, List.getElem?_eq_getElem hj]; rfl
  have grow : ∀ {l : List Flt} {i i' : Nat} {k : Int}, (∀ f ∈ l, widthZ f.1 ≠ 0 ∧ 0 ≤ f.2 ∧ f.2 + widthZ f.1 ≤ i) → widthZ k ≠ 0 → (i' : Int) = i + widthZ k → ∀ f ∈ l ++ [(k, (i : Int))], widthZ f.1 ≠ 0 ∧ 0 ≤ f.2 ∧ f.2 + widthZ f.1 ≤ i' := by
    intro l i i' k h hw hi f hf
    have hk : 0 ≤ widthZ k := by rcases widthZ_cases k with e | ⟨e, _⟩ | ⟨e, _⟩ <;> omega
    rcases List.mem_append.1 hf with hf | hf
    · have := h f hf; exact ⟨this.1, this.2.1, by omega⟩
    · rw [List.mem_singleton.1 hf]; exact ⟨hw, by show 0 ≤ (i : Int); omega, by show (i : Int) + widthZ k ≤ i'; omega⟩
  have asc : ∀ {l : List Flt} {i : Nat} {k : Int}, (∀ f ∈ l, widthZ f.1 ≠ 0 ∧ 0 ≤ f.2 ∧ f.2 + widthZ f.1 ≤ i) → l.Pairwise (fun f g => f.2 < g.2) → (l ++ [(k, (i : Int))]).Pairwise (fun f g => f.2 < g.2) := by
    intro l i k h hp
    refine List.pairwise_append.2 ⟨hp, by simp, fun f hf g hg => ?_⟩
    rw [List.mem_singleton.1 hg]
    have := h f hf
    rcases widthZ_cases f.1 with e | ⟨e, _⟩ | ⟨e, _⟩
    · exact absurd e this.1
    · show f.2 < (i : Int); omega
    · show f.2 < (i : Int); omega
  induction h with
  | nil => exact ⟨by simp, rfl, rfl, .nil⟩
  | @same i j l h h1 h2 h3 ih =>
    obtain ⟨g1, g2, g3, g4⟩ := ih
    refine ⟨fun f hf => by have := g1 f hf; exact ⟨this.1, this.2.1, by omega⟩, g2, ?_, g4⟩
    rw [faultedK_succ, g3, tk j h2, ← h3]
    congr 1
    unfold pieceL
    rw [at_none l _ (any_covers_lt g1 (Int.le_refl _))]; rfl
  | @lost i j l h h1 ih =>
    obtain ⟨g1, g2, g3, g4⟩ := ih
    refine ⟨grow g1 (by decide) rfl, canE_snoc g2 (errF_new g1 (by decide) (by show (i : Int) + 1 ≤ _; omega)), ?_, asc g1 g4⟩
    rw [faultedK_succ, faultedK_snoc (by decide), g3]
    unfold pieceL
    rw [at_new g1 (Int.le_refl _) (covers_at rfl)]
    simp
  | @twice i j l h h1 h2 h3 h4 ih =>
    obtain ⟨g1, g2, g3, g4⟩ := ih
    refine ⟨grow g1 (by decide) rfl, canE_snoc g2 (errF_new g1 (by decide) (by show (i : Int) + 1 ≤ _; omega)), ?_, asc g1 g4⟩
    rw [faultedK_succ, faultedK_snoc (by decide), g3, tk (j + 1) h2, tk j (by omega), ← h3, ← h4]
    unfold pieceL
    rw [at_new g1 (Int.le_refl _) (covers_at rfl)]
    simp
  | @swap i j l h h1 h2 h3 h4 ih =>
    obtain ⟨g1, g2, g3, g4⟩ := ih
    refine ⟨grow g1 (by decide) (by show ((i + 2 : Nat) : Int) = (i : Int) + widthZ 3; rfl), canE_snoc g2 (errF_new g1 (by decide) (by show (i : Int) + 2 ≤ _; omega)), ?_, asc g1 g4⟩
    rw [show i + 2 = (i + 1) + 1 from rfl, faultedK_succ, faultedK_succ, faultedK_snoc (by decide), g3, tk (j + 1) h2, tk j (by omega), ← h3, ← h4]
    have e1 : pieceL s (l ++ [(3, (i : Int))]) i = [s.getD (i + 1) 0] := by
      unfold pieceL
      rw [at_new g1 (Int.le_refl _) (covers_at rfl)]
      simp only []
      rw [if_neg (by decide), if_neg (by decide), if_pos True.intro, show (2 * (i : Int) + 1 - (i : Int)).toNat = i + 1 by omega]
    have e2 : pieceL s (l ++ [(3, (i : Int))]) (i + 1) = [s.getD i 0] := by
      unfold pieceL
      rw [show ((i + 1 : Nat) : Int) = (i : Int) + 1 by omega, at_new g1 (by omega) (covers_at' rfl rfl)]
      simp only []
      rw [if_neg (by decide), if_neg (by decide), if_pos True.intro, show (2 * (i : Int) + 1 - ((i : Int) + 1)).toNat = i by omega]
    rw [e1, e2]
theorem Pre.whole {s r : List UInt8} {l : List Flt} (h : Pre s r s.length r.length l) : canE s.length l = 0 ∧ faultedL s l = r ∧ l.Pairwise (fun f g => f.2 < g.2) := by
  obtain ⟨_, h2, h3, h4⟩ := h.made
  exact ⟨h2, by unfold faultedL; rw [h3, List.take_length], h4⟩
end Go.Proofs.YtjbdmlpadoiicaaGreatDoor

/-! The reference's table over the ends, and what any faults that can happen are against it. Plain. -/
namespace Go.Proofs.YtjbdmlpadoiicaaGreatDoor

/-- What is left of s from i on becomes what is left of r from j on with so many faults. -/
inductive Suf (s r : List UInt8) : Nat → Nat → Nat → Prop
  | nil : Suf s r s.length r.length 0
  | same {i j c : Nat} : i < s.length → j < r.length → s.getD i 0 = r.getD j 0 → Suf s r (i + 1) (j + 1) c → Suf s r i j c
  | lost {i j c : Nat} : i < s.length → Suf s r (i + 1) j c → Suf s r i j (c + 1)
  | twice {i j c : Nat} : i < s.length → j + 1 < r.length → s.getD i 0 = r.getD j 0 → s.getD i 0 = r.getD (j + 1) 0 → Suf s r (i + 1) (j + 2) c → Suf s r i j (c + 1)
  | swap {i j c : Nat} : i + 1 < s.length → j + 1 < r.length → s.getD i 0 = r.getD (j + 1) 0 → s.getD (i + 1) 0 = r.getD j 0 → Suf s r (i + 2) (j + 2) c → Suf s r i j (c + 1)
theorem Pre.suf {s r : List UInt8} {i j : Nat} {l : List Flt} (h : Pre s r i j l) : ∀ c : Nat, Suf s r i j c → Suf s r 0 0 (l.length + c) := by
  induction h with
  | nil => intro c hc; simpa using hc
  | same _ h1 h2 h3 ih => intro c hc; exact ih c (.same h1 h2 h3 hc)
  | lost _ h1 ih => intro c hc; have := ih (c + 1) (.lost h1 hc); rw [List.length_append]; simp only [List.length_cons, List.length_nil]; rwa [show ∀ x : Nat, x + (0 + 1) + c = x + (c + 1) from fun x => by omega]
  | twice _ h1 h2 h3 h4 ih => intro c hc; have := ih (c + 1) (.twice h1 h2 h3 h4 hc); rw [List.length_append]; simp only [List.length_cons, List.length_nil]; rwa [show ∀ x : Nat, x + (0 + 1) + c = x + (c + 1) from fun x => by omega]
  | swap _ h1 h2 h3 h4 ih => intro c hc; have := ih (c + 1) (.swap h1 h2 h3 h4 hc); rw [List.length_append]; simp only [List.length_cons, List.length_nil]; rwa [show ∀ x : Nat, x + (0 + 1) + c = x + (c + 1) from fun x => by omega]
theorem Suf.pre {s r : List UInt8} {i j c : Nat} (h : Suf s r i j c) : ∀ l, Pre s r i j l → ∃ l', Pre s r s.length r.length l' ∧ l'.length = l.length + c := by
  induction h with
  | nil => exact fun l hl => ⟨l, hl, rfl⟩
  | same h1 h2 h3 _ ih => exact fun l hl => ih l (.same hl h1 h2 h3)
  | lost h1 _ ih => intro l hl; obtain ⟨l', h, e⟩ := ih _ (.lost hl h1); exact ⟨l', h, by rw [e]; simp; omega⟩
  | twice h1 h2 h3 h4 _ ih => intro l hl; obtain ⟨l', h, e⟩ := ih _ (.twice hl h1 h2 h3 h4); exact ⟨l', h, by rw [e]; simp; omega⟩
  | swap h1 h2 h3 h4 _ ih => intro l hl; obtain ⟨l', h, e⟩ := ih _ (.swap hl h1 h2 h3 h4); exact ⟨l', h, by rw [e]; simp; omega⟩

/-! ### The reference's table -/
def eB0 (f1 : Nat → Int) (k : Nat) : Int := 1 + f1 k
def eB1 (s r : List UInt8) (i k : Nat) (f1 : Nat → Int) : Int := if k < r.length ∧ s.getD i 0 = r.getD k 0 then min (eB0 f1 k) (f1 (k + 1)) else eB0 f1 k
def eB2 (s r : List UInt8) (i k : Nat) (f1 : Nat → Int) : Int := if k + 1 < r.length ∧ s.getD i 0 = r.getD k 0 ∧ s.getD i 0 = r.getD (k + 1) 0 then min (eB1 s r i k f1) (1 + f1 (k + 2)) else eB1 s r i k f1
def eB3 (s r : List UInt8) (i k : Nat) (f1 f2 : Nat → Int) : Int := if k + 1 < r.length ∧ i + 1 < s.length ∧ s.getD i 0 = r.getD (k + 1) 0 ∧ s.getD (i + 1) 0 = r.getD k 0 then min (eB2 s r i k f1) (1 + f2 (k + 2)) else eB2 s r i k f1
/-- The number for the last a flashes, from the column k on. -/
def eA (s r : List UInt8) : Nat → Nat → Int
  | 0, k => if k = r.length then 0 else 1000
  | 1, k => eB3 s r (s.length - 1) k (eA s r 0) (fun _ => 1000)
  | a + 2, k => eB3 s r (s.length - (a + 2)) k (eA s r (a + 1)) (eA s r a)
/-- The number at a place. -/
def eT (s r : List UInt8) (i k : Nat) : Int := eA s r (s.length - i) k
theorem eT_last (s r : List UInt8) (k : Nat) : eT s r s.length k = if k = r.length then 0 else 1000 := by unfold eT; rw [Nat.sub_self]; rfl
theorem eB3_no {s r : List UInt8} {i k : Nat} {f1 f2 g2 : Nat → Int} (h : ¬ i + 1 < s.length) : eB3 s r i k f1 f2 = eB3 s r i k f1 g2 := by
  unfold eB3; rw [if_neg (fun c => h c.2.1), if_neg (fun c => h c.2.1)]
theorem eT_at {s r : List UInt8} {i : Nat} (hi : i < s.length) (k : Nat) : eT s r i k = eB3 s r i k (eT s r (i + 1)) (eT s r (i + 2)) := by
  unfold eT
  by_cases h : i + 1 < s.length
  · obtain ⟨a, ha⟩ : ∃ a, s.length - i = a + 2 := ⟨s.length - i - 2, by omega⟩
    rw [ha]
    show eB3 s r (s.length - (a + 2)) k (eA s r (a + 1)) (eA s r a) = _
    rw [show s.length - (a + 2) = i by omega, show s.length - (i + 1) = a + 1 by omega, show s.length - (i + 2) = a by omega]
  · rw [show s.length - i = 1 by omega]
    show eB3 s r (s.length - 1) k (eA s r 0) (fun _ => 1000) = _
    rw [show s.length - 1 = i by omega, show s.length - (i + 1) = 0 by omega]
    exact eB3_no h
theorem eB3_le (s r : List UInt8) (i k : Nat) (f1 f2 : Nat → Int) : eB3 s r i k f1 f2 ≤ eB2 s r i k f1 ∧ eB2 s r i k f1 ≤ eB1 s r i k f1 ∧ eB1 s r i k f1 ≤ eB0 f1 k := by
  refine ⟨?_, ?_, ?_⟩
  · unfold eB3; split <;> omega
  · unfold eB2; split <;> omega
  · unfold eB1; split <;> omega
theorem eT_bd {s r : List UInt8} : ∀ (a i k : Nat), s.length - i = a → i ≤ s.length → 0 ≤ eT s r i k ∧ eT s r i k ≤ 1000 + a := by
  intro a
  induction a using Nat.strongRecOn with
  | _ a ih =>
    intro i k ha hi
    by_cases h : i < s.length
    · rw [eT_at h]
      have h1 := fun k => ih (s.length - (i + 1)) (by omega) (i + 1) k rfl (by omega)
      have hle := eB3_le s r i k (eT s r (i + 1)) (eT s r (i + 2))
      have h0 : eB0 (eT s r (i + 1)) k = 1 + eT s r (i + 1) k := rfl
      have b0 := h1 k
      refine ⟨?_, by omega⟩
      have c1 : 0 ≤ eB1 s r i k (eT s r (i + 1)) := by
        unfold eB1; have := (h1 (k + 1)).1; split <;> omega
      have c2 : 0 ≤ eB2 s r i k (eT s r (i + 1)) := by
        unfold eB2; have := (h1 (k + 2)).1; split <;> omega
      unfold eB3
      split
      · rename_i c
        have := (ih (s.length - (i + 2)) (by omega) (i + 2) (k + 2) rfl (by omega)).1
        omega
      · exact c2
    · obtain rfl : i = s.length := by omega
      rw [eT_last]; split <;> omega
theorem Suf.most {s r : List UInt8} {i j c : Nat} (h : Suf s r i j c) : eT s r i j ≤ c := by
  induction h with
  | nil => rw [eT_last, if_pos rfl]; simp
  | @same i j c h1 h2 h3 _ ih =>
    rw [eT_at h1]
    have hle := eB3_le s r i j (eT s r (i + 1)) (eT s r (i + 2))
    have : eB1 s r i j (eT s r (i + 1)) ≤ eT s r (i + 1) (j + 1) := by unfold eB1; rw [if_pos ⟨h2, h3⟩]; omega
    omega
  | @lost i j c h1 _ ih =>
    rw [eT_at h1]
    have hle := eB3_le s r i j (eT s r (i + 1)) (eT s r (i + 2))
    have : eB0 (eT s r (i + 1)) j = 1 + eT s r (i + 1) j := rfl
    omega
  | @twice i j c h1 h2 h3 h4 _ ih =>
    rw [eT_at h1]
    have hle := eB3_le s r i j (eT s r (i + 1)) (eT s r (i + 2))
    have : eB2 s r i j (eT s r (i + 1)) ≤ 1 + eT s r (i + 1) (j + 2) := by unfold eB2; rw [if_pos ⟨h2, h3, h4⟩]; omega
    omega
  | @swap i j c h1 h2 h3 h4 _ ih =>
    rw [eT_at (by omega)]
    have : eB3 s r i j (eT s r (i + 1)) (eT s r (i + 2)) ≤ 1 + eT s r (i + 2) (j + 2) := by unfold eB3; rw [if_pos ⟨h2, h1, h3, h4⟩]; omega
    omega
theorem eT_reached {s r : List UInt8} : ∀ (a i j : Nat), s.length - i = a → i ≤ s.length → eT s r i j < 1000 → ∃ c : Nat, Suf s r i j c ∧ (c : Int) = eT s r i j := by
  intro a
  induction a using Nat.strongRecOn with
  | _ a ih =>
    intro i j ha hi hlt
    by_cases h : i < s.length
    · rw [eT_at h] at hlt ⊢
      have h1 := fun k => ih (s.length - (i + 1)) (by omega) (i + 1) k rfl (by omega)
      have b0 := fun k => (eT_bd (s := s) (r := r) (s.length - (i + 1)) (i + 1) k rfl (by omega)).1
      have k0 : ∀ x : Int, eB0 (eT s r (i + 1)) j = x → x < 1000 → ∃ c : Nat, Suf s r i j c ∧ (c : Int) = x := by
        intro x hx hl
        obtain ⟨c, hc, e⟩ := h1 j (by unfold eB0 at hx; omega)
        exact ⟨c + 1, .lost h hc, by unfold eB0 at hx; omega⟩
      have k1 : ∀ x : Int, eB1 s r i j (eT s r (i + 1)) = x → x < 1000 → ∃ c : Nat, Suf s r i j c ∧ (c : Int) = x := by
        intro x hx hl
        unfold eB1 at hx
        split at hx
        · rename_i c
          by_cases hm : eB0 (eT s r (i + 1)) j ≤ eT s r (i + 1) (j + 1)
          · exact k0 x (by omega) hl
          · obtain ⟨d, hd, e⟩ := h1 (j + 1) (by omega)
            exact ⟨d, .same h c.1 c.2 hd, by omega⟩
        · exact k0 x hx hl
      have k2 : ∀ x : Int, eB2 s r i j (eT s r (i + 1)) = x → x < 1000 → ∃ c : Nat, Suf s r i j c ∧ (c : Int) = x := by
        intro x hx hl
        unfold eB2 at hx
        split at hx
        · rename_i c
          by_cases hm : eB1 s r i j (eT s r (i + 1)) ≤ 1 + eT s r (i + 1) (j + 2)
          · exact k1 x (by omega) hl
          · obtain ⟨d, hd, e⟩ := h1 (j + 2) (by omega)
            exact ⟨d + 1, .twice h c.1 c.2.1 c.2.2 hd, by omega⟩
        · exact k1 x hx hl
      obtain ⟨x, hx⟩ : ∃ x, eB3 s r i j (eT s r (i + 1)) (eT s r (i + 2)) = x := ⟨_, rfl⟩
      rw [hx] at hlt ⊢
      unfold eB3 at hx
      split at hx
      · rename_i c
        by_cases hm : eB2 s r i j (eT s r (i + 1)) ≤ 1 + eT s r (i + 2) (j + 2)
        · exact k2 x (by omega) hlt
        · obtain ⟨d, hd, e⟩ := ih (s.length - (i + 2)) (by omega) (i + 2) (j + 2) rfl (by omega) (by omega)
          exact ⟨d + 1, .swap c.2.1 c.1 c.2.2.1 c.2.2.2 hd, by omega⟩
      · exact k2 x hx hlt
    · obtain rfl : i = s.length := by omega
      rw [eT_last] at hlt ⊢
      split at hlt
      · rename_i e
        subst e
        rw [if_pos rfl]; exact ⟨0, .nil, rfl⟩
      · omega
/-- Both tables tell the same least number. -/
theorem tables {s r : List UInt8} (hs : s.length ≤ 100) : (dT s r s.length r.length ≤ s.length ↔ eT s r 0 0 < 1000) ∧ (dT s r s.length r.length ≤ s.length → eT s r 0 0 = dT s r s.length r.length) := by
  have a1 : dT s r s.length r.length ≤ s.length → eT s r 0 0 ≤ dT s r s.length r.length := fun h => by
    obtain ⟨l, hl, e⟩ := dT_reached (s := s) (r := r) s.length r.length (Nat.le_refl _) (by omega)
    have := (hl.suf 0 .nil).most
    omega
  have a2 : eT s r 0 0 < 1000 → dT s r s.length r.length ≤ eT s r 0 0 ∧ dT s r s.length r.length ≤ s.length := fun h => by
    obtain ⟨c, hc, e⟩ := eT_reached s.length 0 0 (by omega) (by omega) h
    obtain ⟨l, hl, el⟩ := hc.pre [] .nil
    have := hl.least
    have hb := hl.bd
    simp at el
    omega
  exact ⟨⟨fun h => by have := a1 h; omega, fun h => (a2 h).2⟩, fun h => by have := a1 h; have := a2 (by omega); omega⟩

/-! ### Any faults that can happen are such a way -/
theorem count_more {p q : Flt → Bool} : ∀ {l : List Flt} {f : Flt}, (∀ x, p x = true → q x = true) → f ∈ l → p f = false → q f = true → l.countP p + 1 ≤ l.countP q
  | g :: l, f, hpq, hf, hp, hq => by
    have hle : l.countP p ≤ l.countP q := List.countP_mono_left (fun x _ => hpq x)
    rw [List.countP_cons, List.countP_cons]
    rcases List.mem_cons.1 hf with rfl | hf
    · rw [hp, hq]; simp; omega
    · have := count_more hpq hf hp hq
      cases h : p g
      · simp; omega
      · rw [hpq g h]; simp; omega
def cntL (l : List Flt) (i : Nat) : Nat := l.countP (fun f => decide (f.2 < (i : Int)))
theorem cnt_mono (l : List Flt) {i j : Nat} (h : i ≤ j) : cntL l i ≤ cntL l j := List.countP_mono_left (fun x _ hx => by simp only [decide_eq_true_eq] at hx ⊢; omega)
theorem cnt_more {l : List Flt} {i j : Nat} {k : Int} (hm : (k, (i : Int)) ∈ l) (h : i < j) : cntL l i + 1 ≤ cntL l j :=
  count_more (f := (k, (i : Int))) (fun x hx => by simp only [decide_eq_true_eq] at hx ⊢; omega) hm (by simp) (by simp; omega)
theorem faultedK_pre (s : List UInt8) (l : List Flt) {i : Nat} : ∀ {n : Nat}, i ≤ n → ∃ t, faultedK s l n = faultedK s l i ++ t
  | 0, h => by obtain rfl : i = 0 := by omega
               exact ⟨[], by simp⟩
  | n + 1, h => by
    by_cases e : i = n + 1
    · subst e; exact ⟨[], by simp⟩
    · obtain ⟨t, ht⟩ := faultedK_pre s l (i := i) (n := n) (by omega)
      exact ⟨t ++ pieceL s l n, by rw [faultedK_succ, ht, List.append_assoc]⟩
theorem getD_mid (a t : List UInt8) (x : UInt8) : (a ++ x :: t).getD a.length 0 = x := by
  rw [List.getD_eq_getElem?_getD, List.getElem?_append_right (Nat.le_refl _)]; simp
theorem getD_mid2 (a t : List UInt8) (x y : UInt8) : (a ++ x :: y :: t).getD (a.length + 1) 0 = y := by
  rw [List.getD_eq_getElem?_getD, List.getElem?_append_right (by omega)]; simp
theorem way_from {s : List UInt8} {l : List Flt} (hc : canE s.length l = 0) : ∀ (a i : Nat), s.length - i = a → i ≤ s.length → ns l i → ∀ l', Pre s (faultedL s l) i (faultedK s l i).length l' → l'.length ≤ cntL l i →
    ∃ l'', Pre s (faultedL s l) s.length (faultedL s l).length l'' ∧ l''.length ≤ cntL l s.length := by
  intro a
  induction a using Nat.strongRecOn with
  | _ a ih =>
    intro i ha hi hn l' hp hl
    by_cases h : i < s.length
    · rcases kind_cases hc (i : Int) hn with ⟨h1, h2⟩ | ⟨h1, h2⟩ | ⟨h1, h2⟩ | ⟨h1, h2, h3, h4, h5⟩
      · obtain ⟨e1, e2⟩ := step_none hc i h2
        obtain ⟨t, ht⟩ := faultedK_pre s l (i := i + 1) (n := s.length) (by omega)
        rw [e1, List.append_assoc] at ht
        have g : (faultedL s l).getD (faultedK s l i).length 0 = s.getD i 0 := by unfold faultedL; rw [ht]; exact getD_mid _ _ _
        have gl : (faultedK s l i).length < (faultedL s l).length := by unfold faultedL; rw [ht]; simp
        refine ih (s.length - (i + 1)) (by omega) (i + 1) rfl (by omega) e2 l' ?_ (by have := cnt_mono l (i := i) (j := i + 1) (by omega); omega)
        rw [e1, List.length_append]
        exact .same hp h gl g.symm
      · obtain ⟨e1, e2⟩ := step_lost hc i h2
        have hm := (at_spec hc (i : Int) (by rw [h2]; simp)).1
        rw [h2] at hm
        refine ih (s.length - (i + 1)) (by omega) (i + 1) rfl (by omega) e2 (l' ++ [(1, (i : Int))]) ?_ (by have := cnt_more hm (show i < i + 1 by omega); simp; omega)
        rw [e1]
        exact .lost hp h
      · obtain ⟨e1, e2⟩ := step_twice hc i h2
        have hm := (at_spec hc (i : Int) (by rw [h2]; simp)).1
        rw [h2] at hm
        obtain ⟨t, ht⟩ := faultedK_pre s l (i := i + 1) (n := s.length) (by omega)
        rw [e1, List.append_assoc, List.append_assoc] at ht
        have g : (faultedL s l).getD (faultedK s l i).length 0 = s.getD i 0 := by unfold faultedL; rw [ht]; exact getD_mid _ _ _
        have g2 : (faultedL s l).getD ((faultedK s l i).length + 1) 0 = s.getD i 0 := by unfold faultedL; rw [ht]; exact getD_mid2 _ _ _ _
        have gl : (faultedK s l i).length + 1 < (faultedL s l).length := by unfold faultedL; rw [ht]; simp
        refine ih (s.length - (i + 1)) (by omega) (i + 1) rfl (by omega) e2 (l' ++ [(2, (i : Int))]) ?_ (by have := cnt_more hm (show i < i + 1 by omega); simp; omega)
        rw [e1, List.length_append, List.length_append]
        exact .twice hp h gl g.symm g2.symm
      · obtain ⟨e1, e2⟩ := step_swap hc i h2 h3
        have hm := (at_spec hc (i : Int) (by rw [h2]; simp)).1
        rw [h2] at hm
        obtain ⟨t, ht⟩ := faultedK_pre s l (i := i + 2) (n := s.length) (by omega)
        rw [e1, List.append_assoc, List.append_assoc] at ht
        have g : (faultedL s l).getD (faultedK s l i).length 0 = s.getD (i + 1) 0 := by unfold faultedL; rw [ht]; exact getD_mid _ _ _
        have g2 : (faultedL s l).getD ((faultedK s l i).length + 1) 0 = s.getD i 0 := by unfold faultedL; rw [ht]; exact getD_mid2 _ _ _ _
        have gl : (faultedK s l i).length + 1 < (faultedL s l).length := by unfold faultedL; rw [ht]; simp
        refine ih (s.length - (i + 2)) (by omega) (i + 2) rfl (by omega) e2 (l' ++ [(3, (i : Int))]) ?_ (by have := cnt_more hm (show i < i + 2 by omega); simp; omega)
        rw [e1, List.length_append, List.length_append]
        exact .swap hp (by omega) gl g2.symm g.symm
    · obtain rfl : i = s.length := by omega
      exact ⟨l', hp, hl⟩
theorem way_of {s : List UInt8} {l : List Flt} (hc : canE s.length l = 0) : ∃ l', Pre s (faultedL s l) s.length (faultedL s l).length l' ∧ l'.length ≤ l.length := by
  obtain ⟨l', h1, h2⟩ := way_from hc s.length 0 (by omega) (by omega) (ns_start hc) [] .nil (by simp)
  exact ⟨l', h1, by have := List.countP_le_length (p := fun f : Flt => decide (f.2 < (s.length : Int))) (l := l); unfold cntL at h2; omega⟩
end Go.Proofs.YtjbdmlpadoiicaaGreatDoor

/-! What flashes can become needs no more faults than were asked; the first string of two sorted lists that is in both. Plain. -/
namespace Go.Proofs.YtjbdmlpadoiicaaGreatDoor

theorem Pre.len {s r : List UInt8} {i j : Nat} {l : List Flt} (h : Pre s r i j l) : j ≤ i + l.length := by
  induction h with
  | nil => simp
  | same _ _ _ _ ih => omega
  | lost _ _ ih => simp; omega
  | twice _ _ _ _ _ ih => simp; omega
  | swap _ _ _ _ _ ih => simp; omega
/-- The first i flashes become what is done, whatever is received behind it. -/
def PreD (s done : List UInt8) (i : Nat) (l : List Flt) : Prop := ∀ t, Pre s (done ++ t) i done.length l
theorem getD_app (a t : List UInt8) (x : UInt8) : (a ++ x :: t).getD a.length 0 = x := by
  rw [List.getD_eq_getElem?_getD, List.getElem?_append_right (Nat.le_refl _)]; simp
theorem getD_app2 (a t : List UInt8) (x y : UInt8) : (a ++ x :: y :: t).getD (a.length + 1) 0 = y := by
  rw [List.getD_eq_getElem?_getD, List.getElem?_append_right (by omega)]; simp
theorem PreD.one {s done : List UInt8} {i : Nat} {l : List Flt} (h : PreD s done i l) (hi : i < s.length) : PreD s (done ++ [s.getD i 0]) (i + 1) l := fun t => by
  have := h (s.getD i 0 :: t)
  rw [List.append_assoc, List.length_append]
  exact .same this hi (by simp) (getD_app _ _ _).symm
theorem cutL_snoc (s : List UInt8) (i k : Nat) (h1 : i ≤ k) (h2 : k < s.length) : cutL s i (k + 1) = cutL s i k ++ [s.getD k 0] := by
  unfold cutL
  rw [show k + 1 - i = (k - i) + 1 by omega, List.take_succ_eq_append_getElem (by rw [List.length_drop]; omega)]
  congr 1
  rw [List.getElem_drop, List.getD_eq_getElem?_getD, List.getElem?_eq_getElem h2]
  simp only [show i + (k - i) = k by omega]; rfl
theorem PreD.run {s done : List UInt8} {i : Nat} {l : List Flt} (h : PreD s done i l) : ∀ k : Nat, i ≤ k → k ≤ s.length → PreD s (done ++ cutL s i k) k l := by
  intro k
  induction k with
  | zero => intro h1 _; obtain rfl : i = 0 := by omega
            have : cutL s 0 0 = [] := by simp [cutL]
            rw [this, List.append_nil]; exact h
  | succ k ih =>
    intro h1 h2
    by_cases e : i = k + 1
    · subst e
      have : cutL s (k + 1) (k + 1) = [] := by simp [cutL]
      rw [this, List.append_nil]; exact h
    · have := (ih (by omega) (by omega)).one (by omega)
      rw [List.append_assoc, ← cutL_snoc s i k (by omega) (by omega)] at this
      exact this
theorem cutL_one (s : List UInt8) (k : Nat) (h : k < s.length) : cutL s k (k + 1) = [s.getD k 0] := by
  have := cutL_snoc s k k (Nat.le_refl _) h
  rw [this]; simp [cutL]
theorem PreD.lost {s done : List UInt8} {i : Nat} {l : List Flt} (h : PreD s done i l) (hi : i < s.length) : PreD s done (i + 1) (l ++ [(1, (i : Int))]) := fun t => .lost (h t) hi
theorem PreD.twice {s done : List UInt8} {i : Nat} {l : List Flt} (h : PreD s done i l) (hi : i < s.length) : PreD s (done ++ [s.getD i 0] ++ [s.getD i 0]) (i + 1) (l ++ [(2, (i : Int))]) := fun t => by
  have := h (s.getD i 0 :: s.getD i 0 :: t)
  rw [List.append_assoc, List.append_assoc, List.length_append, List.length_append]
  exact .twice this hi (by simp) (getD_app _ _ _).symm (getD_app2 _ _ _ _).symm
theorem PreD.swap {s done : List UInt8} {i : Nat} {l : List Flt} (h : PreD s done i l) (hi : i + 1 < s.length) : PreD s (done ++ [s.getD (i + 1) 0] ++ [s.getD i 0]) (i + 2) (l ++ [(3, (i : Int))]) := fun t => by
  have := h (s.getD (i + 1) 0 :: s.getD i 0 :: t)
  rw [List.append_assoc, List.append_assoc, List.length_append, List.length_append]
  exact .swap this hi (by simp) (getD_app2 _ _ _ _).symm (getD_app _ _ _).symm
/-- Each string of the walk is made by so many faults at most. -/
theorem walk_sound (s : List UInt8) : ∀ (left frm : Nat) (done : List UInt8) (l0 : List Flt), frm ≤ s.length → PreD s done frm l0 → ∀ x ∈ walkL s left frm done, ∃ l, Pre s x s.length x.length l ∧ l.length ≤ l0.length + left := by
  have base : ∀ (frm : Nat) (done : List UInt8) (l0 : List Flt), frm ≤ s.length → PreD s done frm l0 → Pre s (done ++ s.drop frm) s.length (done ++ s.drop frm).length l0 := by
    intro frm done l0 hf h
    have e : s.drop frm = cutL s frm s.length := by unfold cutL; rw [List.take_of_length_le (by simp)]
    have := h.run s.length hf (Nat.le_refl _) []
    rw [List.append_nil] at this
    rw [e]; exact this
  intro left
  induction left with
  | zero =>
    intro frm done l0 hf h x hx
    rw [walkL_zero, List.mem_singleton] at hx
    subst hx
    exact ⟨l0, base frm done l0 hf h, by omega⟩
  | succ left ih =>
    intro frm done l0 hf h x hx
    rw [walkL_succ] at hx
    rcases List.mem_cons.1 hx with rfl | hx
    · exact ⟨l0, base frm done l0 hf h, by omega⟩
    · unfold stepsL at hx
      obtain ⟨d, hd, hx⟩ := List.mem_flatMap.1 hx
      have hdl : frm + d < s.length := by have := List.mem_range.1 hd; omega
      have hr := h.run (frm + d) (by omega) (by omega)
      unfold stepL at hx
      rcases List.mem_append.1 hx with hx | hx
      · split at hx
        · rcases List.mem_append.1 hx with hx | hx
          · obtain ⟨l, h1, h2⟩ := ih _ _ _ (by omega) (hr.lost hdl) x hx
            exact ⟨l, h1, by simp at h2; omega⟩
          · rw [cutL_one s _ hdl] at hx
            obtain ⟨l, h1, h2⟩ := ih _ _ _ (by omega) (hr.twice hdl) x hx
            exact ⟨l, h1, by simp at h2; omega⟩
        · simp at hx
      · split at hx
        · rename_i hs
          have hd2 : frm + d + 1 < s.length := by unfold swapB at hs; simp only [Bool.and_eq_true, decide_eq_true_eq] at hs; exact hs.1
          rw [cutL_one s _ hdl, show frm + d + 2 = (frm + d + 1) + 1 from rfl, cutL_one s _ hd2] at hx
          obtain ⟨l, h1, h2⟩ := ih _ _ _ (by omega) (hr.swap hd2) x hx
          exact ⟨l, h1, by simp at h2; omega⟩
        · simp at hx
theorem out_sound {s : List UInt8} {n : Nat} {x : List UInt8} (h : x ∈ outL s n) : ∃ l, Pre s x s.length x.length l ∧ l.length ≤ n := by
  obtain ⟨l, h1, h2⟩ := walk_sound s n 0 [] [] (by omega) (fun t => .nil) x h
  exact ⟨l, h1, by simpa using h2⟩
/-- With one more fault nothing is lost. -/
theorem walk_mono (s : List UInt8) : ∀ (left frm : Nat) (done : List UInt8), ∀ x ∈ walkL s left frm done, x ∈ walkL s (left + 1) frm done := by
  intro left
  induction left with
  | zero =>
    intro frm done x hx
    rw [walkL_zero, List.mem_singleton] at hx
    rw [walkL_succ, hx]; simp
  | succ left ih =>
    intro frm done x hx
    rw [walkL_succ] at hx ⊢
    rcases List.mem_cons.1 hx with h | hx
    · rw [h]; simp
    · refine List.mem_cons_of_mem _ ?_
      unfold stepsL at hx ⊢
      obtain ⟨d, hd, hx⟩ := List.mem_flatMap.1 hx
      refine List.mem_flatMap.2 ⟨d, hd, ?_⟩
      unfold stepL at hx ⊢
      rcases List.mem_append.1 hx with hx | hx
      · refine List.mem_append.2 (.inl ?_)
        split at hx
        · rename_i c
          rw [if_pos c]
          rcases List.mem_append.1 hx with hx | hx
          · exact List.mem_append.2 (.inl (ih _ _ x hx))
          · exact List.mem_append.2 (.inr (ih _ _ x hx))
        · simp at hx
      · refine List.mem_append.2 (.inr ?_)
        split at hx
        · rename_i c
          rw [if_pos c]; exact ih _ _ x hx
        · simp at hx

/-! ### The first string that two lists share -/
def shareO (a b : List (List UInt8)) : Option (List UInt8) := a.find? (fun x => b.contains x)
theorem share_mem {a b : List (List UInt8)} {x : List UInt8} (h : shareO a b = some x) : x ∈ a ∧ x ∈ b :=
  ⟨List.mem_of_find?_eq_some h, by have := List.find?_some h; simpa using this⟩
theorem share_none {a b : List (List UInt8)} (h : shareO a b = none) : ∀ x, x ∈ a → x ∉ b := fun x hx hb => by
  have := List.find?_eq_none.1 h x hx
  simp at this
  exact this hb
theorem find_first {a : List (List UInt8)} (ha : Strict a) {p : List UInt8 → Bool} {x y : List UInt8} (h : a.find? p = some x) (hy : y ∈ a) (hp : p y = true) : x = y ∨ x < y := by
  induction a with
  | nil => simp at hy
  | cons z a ih =>
    have ha' := List.pairwise_cons.1 ha
    rw [List.find?_cons] at h
    split at h
    · cases h
      rcases List.mem_cons.1 hy with rfl | hy
      · exact .inl rfl
      · exact .inr (ha'.1 y hy)
    · rename_i hz
      rcases List.mem_cons.1 hy with rfl | hy
      · rw [hp] at hz; cases hz
      · exact ih ha'.2 h hy
theorem share_symm {a b : List (List UInt8)} (ha : Strict a) (hb : Strict b) : shareO a b = shareO b a := by
  cases h : shareO a b with
  | none =>
    cases k : shareO b a with
    | none => rfl
    | some y => exact absurd (share_mem k).1 (share_none h y (share_mem k).2)
  | some x =>
    obtain ⟨h1, h2⟩ := share_mem h
    cases k : shareO b a with
    | none => exact absurd h1 (share_none k x h2)
    | some y =>
      obtain ⟨k1, k2⟩ := share_mem k
      rcases find_first ha h k2 (by simpa using k1) with e | e
      · rw [e]
      · rcases find_first hb k h2 (by simpa using h1) with e' | e'
        · rw [e']
        · exact absurd e (lt_asymm' e')
theorem share_more {a b a' b' : List (List UInt8)} (h : shareO a b ≠ none) (ha : ∀ x ∈ a, x ∈ a') (hb : ∀ x ∈ b, x ∈ b') : shareO a' b' ≠ none := by
  cases e : shareO a b with
  | none => exact absurd e h
  | some x =>
    obtain ⟨h1, h2⟩ := share_mem e
    intro k
    exact share_none k x (ha x h1) (hb x h2)
theorem find_congr' {a : List (List UInt8)} {p q : List UInt8 → Bool} (h : ∀ z ∈ a, p z = q z) : a.find? p = a.find? q := by
  induction a with
  | nil => rfl
  | cons z a ih => rw [List.find?_cons, List.find?_cons, h z (by simp), ih (fun y hy => h y (List.mem_cons_of_mem _ hy))]
/-- One round of the search. -/
theorem share_eq {x : List UInt8} {a b : List (List UInt8)} : shareO (x :: a) (x :: b) = some x := by unfold shareO; rw [List.find?_cons]; simp
theorem share_lt {x y : List UInt8} {a b : List (List UInt8)} (hb : Strict (y :: b)) (h : x < y) : shareO (x :: a) (y :: b) = shareO a (y :: b) := by
  unfold shareO
  rw [List.find?_cons]
  have : (y :: b).contains x = false := by
    rw [List.contains_eq_mem, decide_eq_false_iff_not]
    intro hx
    rcases List.mem_cons.1 hx with e | hx
    · rw [e] at h; exact lt_irr y h
    · exact lt_asymm' h ((List.pairwise_cons.1 hb).1 x hx)
  rw [this]
theorem share_gt {x y : List UInt8} {a b : List (List UInt8)} (ha : Strict (x :: a)) (h : y < x) : shareO (x :: a) (y :: b) = shareO (x :: a) b := by
  unfold shareO
  refine find_congr' (fun z hz => ?_)
  have hne : z ≠ y := fun e => by
    subst e
    rcases List.mem_cons.1 hz with e | hz
    · rw [e] at h; exact lt_irr x h
    · exact lt_asymm' h ((List.pairwise_cons.1 ha).1 z hz)
  simp [hne]
theorem share_nil_left (b : List (List UInt8)) : shareO [] b = none := rfl
theorem share_nil_right (a : List (List UInt8)) : shareO a [] = none := by unfold shareO; rw [List.find?_eq_none]; simp
theorem Strict.tail {x : List UInt8} {a : List (List UInt8)} (h : Strict (x :: a)) : Strict a := (List.pairwise_cons.1 h).2
end Go.Proofs.YtjbdmlpadoiicaaGreatDoor
