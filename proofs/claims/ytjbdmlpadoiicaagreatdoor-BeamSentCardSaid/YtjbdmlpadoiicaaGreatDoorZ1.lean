/- The table of package beam for at most so many faults: a sheet that grows and is cut, and what it says. Plain. -/
import Derived.Test.YtjbdmlpadoiicaaGreatDoorS9
set_option linter.unusedVariables false
set_option linter.unusedSimpArgs false
namespace Go.Proofs.YtjbdmlpadoiicaaGreatDoor

def mT (m : Int) (s r : List UInt8) (i j : Nat) : Int := sheetT s r m s.length i j
theorem mendI_low {m : Int} {s r : List UInt8} {i : Nat} (hi : i < s.length) (kd j : Nat) : endI (sheetT s r m i) (s.take (i + 1)) r kd (i + 1) j = endI (mT m s r) s r kd (i + 1) j := by
  have hT : ∀ a b, a ≤ i → sheetT s r m i a b = mT m s r a b := fun a b ha => by
    unfold mT
    rw [sheetT_low s r m s.length a (by omega) (Nat.le_refl _), sheetT_low s r m i a ha (by omega)]
  unfold endI
  rw [getD_take s (i + 1) (i + 1 - 1) (by omega), getD_take s (i + 1) (i + 1 - 2) (by omega), hT _ _ (by omega), hT _ _ (by omega), hT _ _ (by omega), hT _ _ (by omega)]
theorem mminK_low {m : Int} {s r : List UInt8} {i : Nat} (hi : i < s.length) (j : Nat) : ∀ k, minK (sheetT s r m i) (s.take (i + 1)) r (i + 1) j k = minK (mT m s r) s r (i + 1) j k
  | 0 => rfl
  | k + 1 => by simp only [minK]; rw [mminK_low hi j k, mendI_low hi]
theorem mT_zero (m : Int) (s r : List UInt8) (j : Nat) : mT m s r 0 j = if j = 0 then 0 else 200 := by
  unfold mT
  rw [sheetT_low s r m s.length 0 (by omega) (Nat.le_refl _)]
  show T0 0 j = _
  unfold T0; simp
theorem mT_succ {m : Int} {s r : List UInt8} {i : Nat} (hi : i < s.length) (j : Nat) : mT m s r (i + 1) j = if inBand m r.length (i + 1) j = true then minK (mT m s r) s r (i + 1) j 4 else 200 := by
  unfold mT
  rw [sheetT_low s r m s.length (i + 1) (by omega) (Nat.le_refl _)]
  show nextT (sheetT s r m i) (s.take (i + 1)) r m (i + 1) j = _
  unfold nextT
  have hl : (s.take (i + 1)).length = i + 1 := by rw [List.length_take]; omega
  by_cases hb : inBand m r.length (i + 1) j = true
  · rw [if_pos ⟨hl.symm, hb⟩, if_pos hb, mminK_low hi]; rfl
  · rw [if_neg (fun h => hb h.2), if_neg hb]; exact sheetT_high s r _ i (i + 1) (by omega) (by omega) j
/-- What an end with a part is: the number of the place before it, if the part fits there. -/
theorem mend_same {m : Int} {s r : List UInt8} {i j : Nat} : endI (mT m s r) s r 0 (i + 1) (j + 1) = if s.getD i 0 = r.getD j 0 then mT m s r i j else 200 := by
  unfold endI; rw [if_pos rfl, if_neg (by omega)]; rfl
theorem mend_lost {m : Int} {s r : List UInt8} {i j : Nat} : endI (mT m s r) s r 1 (i + 1) j = mT m s r i j + 1 := by
  unfold endI; rw [if_neg (by decide), if_pos rfl, if_neg (by omega)]; rfl
theorem mend_twice {m : Int} {s r : List UInt8} {i j : Nat} : endI (mT m s r) s r 2 (i + 1) (j + 2) = if s.getD i 0 = r.getD j 0 ∧ s.getD i 0 = r.getD (j + 1) 0 then mT m s r i j + 1 else 200 := by
  unfold endI; rw [if_neg (by decide), if_neg (by decide), if_pos rfl, if_neg (by omega)]; rfl
theorem mend_swap {m : Int} {s r : List UInt8} {i j : Nat} : endI (mT m s r) s r 3 (i + 2) (j + 2) = if s.getD i 0 = r.getD (j + 1) 0 ∧ s.getD (i + 1) 0 = r.getD j 0 then mT m s r i j + 1 else 200 := by
  unfold endI; rw [if_neg (by decide), if_neg (by decide), if_neg (by decide), if_neg (by omega)]; rfl

theorem Pre.len2 {s r : List UInt8} {i j : Nat} {l : List Flt} (h : Pre s r i j l) : i ≤ j + l.length := by
  induction h with
  | nil => simp
  | same _ _ _ _ ih => omega
  | lost _ _ ih => simp; omega
  | twice _ _ _ _ _ ih => simp; omega
  | swap _ _ _ _ _ ih => simp; omega
theorem Pre.band {m : Int} {s r : List UInt8} {i j : Nat} {l : List Flt} (h : Pre s r i j l) (hl : (l.length : Int) ≤ m) : inBand m r.length i j = true := by
  have h1 := h.bd
  have h2 := h.len
  have h3 := h.len2
  unfold inBand; simp only [Bool.and_eq_true, decide_eq_true_eq]; omega
theorem Pre.mleast {m : Int} {s r : List UInt8} {i j : Nat} {l : List Flt} (h : Pre s r i j l) : (l.length : Int) ≤ m → mT m s r i j ≤ l.length := by
  have step : ∀ {i' j' : Nat} (kd : Nat) (l' : List Flt), kd < 4 → i' < s.length → Pre s r (i' + 1) j' l' → (l'.length : Int) ≤ m → endI (mT m s r) s r kd (i' + 1) j' ≤ l'.length → mT m s r (i' + 1) j' ≤ l'.length := by
    intro i' j' kd l' hk hi hp hl he
    rw [mT_succ hi, if_pos (hp.band hl)]
    have := (minK_le (mT m s r) s r (i' + 1) j').2.1 kd hk
    omega
  induction h with
  | nil => intro _; rw [mT_zero]; simp
  | same h h1 h2 h3 ih => exact fun hl => step 0 _ (by decide) h1 (.same h h1 h2 h3) hl (by rw [mend_same, if_pos h3]; exact ih hl)
  | lost h h1 ih => exact fun hl => step 1 _ (by decide) h1 (.lost h h1) hl (by rw [mend_lost]; simp at hl ⊢; have := ih (by omega); omega)
  | twice h h1 h2 h3 h4 ih => exact fun hl => step 2 _ (by decide) h1 (.twice h h1 h2 h3 h4) hl (by rw [mend_twice, if_pos ⟨h3, h4⟩]; simp at hl ⊢; have := ih (by omega); omega)
  | swap h h1 h2 h3 h4 ih => exact fun hl => step 3 _ (by decide) h1 (.swap h h1 h2 h3 h4) hl (by rw [mend_swap, if_pos ⟨h3, h4⟩]; simp at hl ⊢; have := ih (by omega); omega)

theorem mT_bd {m : Int} {s r : List UInt8} : ∀ (i j : Nat), i ≤ s.length → 0 ≤ mT m s r i j ∧ mT m s r i j ≤ 200 := by
  intro i
  induction i using Nat.strongRecOn with
  | _ i ih =>
    intro j hi
    cases i with
    | zero => rw [mT_zero]; split <;> omega
    | succ i =>
      rw [mT_succ (by omega)]
      split
      · have h := minK_le (mT m s r) s r (i + 1) j
        refine ⟨?_, h.1⟩
        rcases h.2.2 with e | ⟨kd, hk, e⟩
        · omega
        · rw [e]
          have g1 := ih i (by omega)
          unfold endI
          split
          · split
            · omega
            · split
              · exact (g1 _ (by omega)).1
              · omega
          · split
            · split
              · omega
              · have := (g1 j (by omega)).1; simp only [Nat.add_sub_cancel]; omega
            · split
              · split
                · omega
                · split
                  · have := (g1 (j - 2) (by omega)).1; simp only [Nat.add_sub_cancel]; omega
                  · omega
              · split
                · omega
                · split
                  · have := (ih (i + 1 - 2) (by omega) (j - 2) (by omega)).1; omega
                  · omega
      · omega
/-- A place whose number is not too great is reached by a part from a place before it. -/
theorem mpart_of {m : Int} {s r : List UInt8} {i j : Nat} (hi : 0 < i) (hin : i ≤ s.length) (hlt : mT m s r i j < 200) :
    inBand m r.length i j = true ∧ mT m s r i j = minK (mT m s r) s r i j 4 := by
  obtain ⟨k, rfl⟩ : ∃ k, i = k + 1 := ⟨i - 1, by omega⟩
  rw [mT_succ (by omega)] at hlt ⊢
  split at hlt
  · rename_i hb; exact ⟨hb, by rw [if_pos hb]⟩
  · omega
theorem mendI_part {m : Int} {s r : List UInt8} {kd i j : Nat} (hk : kd < 4) (hin : i ≤ s.length) (hj : j ≤ r.length) (hlt : endI (mT m s r) s r kd i j < 200) :
    ∃ i' j', partTo s r kd i' j' i j ∧ endI (mT m s r) s r kd i j = mT m s r i' j' + (if kd = 0 then 0 else 1) ∧ (i : Int) = i' + psN kd ∧ (j : Int) = j' + prN kd := by
  rcases (by omega : kd = 0 ∨ kd = 1 ∨ kd = 2 ∨ kd = 3) with rfl | rfl | rfl | rfl
  · by_cases c : i < 1 ∨ j < 1
    · unfold endI at hlt; rw [if_pos rfl, if_pos c] at hlt; omega
    · obtain ⟨i', rfl⟩ : ∃ k, i = k + 1 := ⟨i - 1, by omega⟩
      obtain ⟨j', rfl⟩ : ∃ k, j = k + 1 := ⟨j - 1, by omega⟩
      rw [mend_same] at hlt ⊢
      split at hlt
      · rename_i he
        exact ⟨i', j', .inl ⟨rfl, rfl, rfl, by omega, by omega, he⟩, by rw [if_pos he]; simp, by simp [psN], by simp [prN]⟩
      · omega
  · by_cases c : i < 1
    · unfold endI at hlt; rw [if_neg (by decide), if_pos rfl, if_pos c] at hlt; omega
    · obtain ⟨i', rfl⟩ : ∃ k, i = k + 1 := ⟨i - 1, by omega⟩
      rw [mend_lost]
      exact ⟨i', j, .inr (.inl ⟨rfl, rfl, rfl, by omega⟩), by simp, by simp [psN], by simp [prN]⟩
  · by_cases c : i < 1 ∨ j < 2
    · unfold endI at hlt; rw [if_neg (by decide), if_neg (by decide), if_pos rfl, if_pos c] at hlt; omega
    · obtain ⟨i', rfl⟩ : ∃ k, i = k + 1 := ⟨i - 1, by omega⟩
      obtain ⟨j', rfl⟩ : ∃ k, j = k + 2 := ⟨j - 2, by omega⟩
      rw [mend_twice] at hlt ⊢
      split at hlt
      · rename_i he
        exact ⟨i', j', .inr (.inr (.inl ⟨rfl, rfl, rfl, by omega, by omega, he.1, he.2⟩)), by rw [if_pos he]; simp, by simp [psN], by simp [prN]⟩
      · omega
  · by_cases c : i < 2 ∨ j < 2
    · unfold endI at hlt; rw [if_neg (by decide), if_neg (by decide), if_neg (by decide), if_pos c] at hlt; omega
    · obtain ⟨i', rfl⟩ : ∃ k, i = k + 2 := ⟨i - 2, by omega⟩
      obtain ⟨j', rfl⟩ : ∃ k, j = k + 2 := ⟨j - 2, by omega⟩
      rw [mend_swap] at hlt ⊢
      split at hlt
      · rename_i he
        exact ⟨i', j', .inr (.inr (.inr ⟨rfl, rfl, rfl, by omega, by omega, he.1, he.2⟩)), by rw [if_pos he]; simp, by simp [psN], by simp [prN]⟩
      · omega
theorem mband_le {m : Int} {n i j : Nat} (h : inBand m n i j = true) : j ≤ n := by
  unfold inBand at h; simp only [Bool.and_eq_true, decide_eq_true_eq] at h; omega
/-- A number below 200 is reached by so many faults. -/
theorem mT_reached {m : Int} {s r : List UInt8} : ∀ (i j : Nat), i ≤ s.length → mT m s r i j < 200 → ∃ l, Pre s r i j l ∧ (l.length : Int) = mT m s r i j := by
  intro i
  induction i using Nat.strongRecOn with
  | _ i ih =>
    intro j hin hlt
    by_cases h0 : i = 0
    · subst h0
      rw [mT_zero] at hlt ⊢
      split at hlt
      · rename_i e; subst e; exact ⟨[], .nil, rfl⟩
      · omega
    · obtain ⟨hb, hm⟩ := mpart_of (by omega) hin hlt
      rw [hm] at hlt ⊢
      rcases (minK_le (mT m s r) s r i j).2.2 with e | ⟨kd, hk, e⟩
      · omega
      · rw [e] at hlt ⊢
        obtain ⟨i', j', hp, he, h1, h2⟩ := mendI_part hk hin (mband_le hb) hlt
        have hps : psN kd = 1 ∨ psN kd = 2 := by unfold psN; split <;> simp
        obtain ⟨l, hl, hc⟩ := ih i' (by omega) j' (by omega) (by rw [he] at hlt; split at hlt <;> omega)
        refine ⟨_, hl.part hp, ?_⟩
        rw [he, List.length_append, Int.natCast_add, hc, fltOf_length]


/-! ### A sheet that grows and is cut -/
theorem sheetT_app (s t r : List UInt8) (m : Int) : ∀ k : Nat, k ≤ s.length → sheetT (s ++ t) r m k = sheetT s r m k
  | 0, _ => rfl
  | k + 1, h => by
    show nextT (sheetT (s ++ t) r m k) ((s ++ t).take (k + 1)) r m = nextT (sheetT s r m k) (s.take (k + 1)) r m
    rw [sheetT_app s t r m k (by omega), List.take_append_of_le_length h]
theorem mT_app (m : Int) (s t r : List UInt8) {a : Nat} (ha : a ≤ s.length) (b : Nat) : mT m (s ++ t) r a b = mT m s r a b := by
  unfold mT
  rw [sheetT_low (s ++ t) r m _ a (by rw [List.length_append]; omega) (Nat.le_refl _), sheetT_app s t r m a ha, sheetT_low s r m s.length a ha (Nat.le_refl _)]
/-- The rows up to what is sent are right, and those behind it are right wherever no number is written. -/
structure Fit (T : Nat → Nat → Int) (m : Int) (s r : List UInt8) : Prop where
  low : ∀ a b, a ≤ s.length → T a b = mT m s r a b
  high : ∀ a b, s.length < a → inBand m r.length a b = false → T a b = 200
theorem Fit.start (m : Int) (r : List UInt8) : Fit T0 m [] r :=
  ⟨fun a b ha => by obtain rfl : a = 0 := by simpa using ha
                    rfl, fun a b ha _ => by unfold T0; rw [if_neg (by simp at ha; omega)]⟩
theorem Fit.row {T : Nat → Nat → Int} {m : Int} {s r : List UInt8} (h : Fit T m s r) (c : UInt8) (j : Nat) : minK T (s ++ [c]) r (s.length + 1) j 4 = minK (mT m (s ++ [c]) r) (s ++ [c]) r (s.length + 1) j 4 :=
  minK_congr (fun a b ha => by rw [h.low a b (by omega), mT_app m s [c] r (by omega)]) 4
theorem Fit.send {T : Nat → Nat → Int} {m : Int} {s r : List UInt8} (h : Fit T m s r) (c : UInt8) : Fit (nextT T (s ++ [c]) r m) m (s ++ [c]) r := by
  have hl : (s ++ [c]).length = s.length + 1 := by simp
  refine ⟨fun a b ha => ?_, fun a b ha hb => ?_⟩
  · by_cases e : a = s.length + 1
    · subst e
      rw [mT_succ (by omega)]
      unfold nextT
      by_cases hb : inBand m r.length (s.length + 1) b = true
      · rw [if_pos ⟨hl.symm, hb⟩, if_pos hb, h.row]
      · rw [if_neg (fun x => hb x.2), if_neg hb, h.high _ _ (by omega) (by simpa using hb)]
    · unfold nextT
      rw [if_neg (by omega), h.low a b (by omega), mT_app m s [c] r (by omega)]
  · unfold nextT
    rw [if_neg (by omega), h.high a b (by omega) hb]
theorem Fit.cut {T : Nat → Nat → Int} {m : Int} {s t r : List UInt8} (h : Fit T m (s ++ t) r) : Fit T m s r := by
  refine ⟨fun a b ha => by rw [h.low a b (by rw [List.length_append]; omega), mT_app m s t r ha], fun a b ha hb => ?_⟩
  by_cases c : a ≤ (s ++ t).length
  · rw [h.low a b c]
    obtain ⟨k, rfl⟩ : ∃ k, a = k + 1 := ⟨a - 1, by omega⟩
    rw [mT_succ (by omega), if_neg (by simp [hb])]
  · exact h.high a b (by omega) hb

/-- A way passes each row, with no more faults than it has. -/
theorem Pre.through {s r : List UInt8} {i j : Nat} {l : List Flt} (h : Pre s r i j l) : ∀ k : Nat, k ≤ i → ∃ j' l', Pre s r k j' l' ∧ l'.length ≤ l.length := by
  induction h with
  | nil => exact fun k hk => ⟨0, [], by obtain rfl : k = 0 := by omega
                                        exact .nil, Nat.le_refl _⟩
  | @same i j l h h1 h2 h3 ih =>
    intro k hk
    by_cases e : k = i + 1
    · subst e; exact ⟨_, _, .same h h1 h2 h3, Nat.le_refl _⟩
    · exact ih k (by omega)
  | @lost i j l h h1 ih =>
    intro k hk
    by_cases e : k = i + 1
    · subst e; exact ⟨_, _, .lost h h1, Nat.le_refl _⟩
    · obtain ⟨j', l', hp, hl⟩ := ih k (by omega)
      exact ⟨j', l', hp, by simp; omega⟩
  | @twice i j l h h1 h2 h3 h4 ih =>
    intro k hk
    by_cases e : k = i + 1
    · subst e; exact ⟨_, _, .twice h h1 h2 h3 h4, Nat.le_refl _⟩
    · obtain ⟨j', l', hp, hl⟩ := ih k (by omega)
      exact ⟨j', l', hp, by simp; omega⟩
  | @swap i j l h h1 h2 h3 h4 ih =>
    intro k hk
    by_cases e : k = i + 2
    · subst e; exact ⟨_, _, .swap h h1 h2 h3 h4, Nat.le_refl _⟩
    · by_cases e : k = i + 1
      · subst e; exact ⟨_, _, .lost h (by omega), by simp⟩
      · obtain ⟨j', l', hp, hl⟩ := ih k (by omega)
        exact ⟨j', l', hp, by simp; omega⟩
theorem getD_front (s t : List UInt8) {a : Nat} (h : a < s.length) : (s ++ t).getD a 0 = s.getD a 0 := by
  rw [List.getD_eq_getElem?_getD, List.getD_eq_getElem?_getD, List.getElem?_append_left h]
theorem Pre.front {s t r : List UInt8} {i j : Nat} {l : List Flt} (h : Pre (s ++ t) r i j l) : i ≤ s.length → Pre s r i j l := by
  induction h with
  | nil => exact fun _ => .nil
  | same _ h1 h2 h3 ih => exact fun hi => .same (ih (by omega)) (by omega) h2 (by rwa [getD_front s t (by omega)] at h3)
  | lost _ h1 ih => exact fun hi => .lost (ih (by omega)) (by omega)
  | twice _ h1 h2 h3 h4 ih => exact fun hi => .twice (ih (by omega)) (by omega) h2 (by rwa [getD_front s t (by omega)] at h3) (by rwa [getD_front s t (by omega)] at h4)
  | swap _ h1 h2 h3 h4 ih => exact fun hi => .swap (ih (by omega)) (by omega) h2 (by rwa [getD_front s t (by omega)] at h3) (by rwa [getD_front s t (by omega)] at h4)

/-- With at most m faults s can become r. -/
def Can (m : Int) (s r : List UInt8) : Prop := ∃ l, Pre s r s.length r.length l ∧ (l.length : Int) ≤ m
/-- Where what is received can become of some flashes that begin so, a sheet says that it is possible. -/
theorem Fit.poss {T : Nat → Nat → Int} {m : Int} {s t r : List UInt8} {c : UInt8} (h : Fit T m s r) (hw : Can m (s ++ [c] ++ t) r) : possB T (s ++ [c]) r m = true := by
  obtain ⟨l, hp, hl⟩ := hw
  have hlen : (s ++ [c]).length = s.length + 1 := by simp
  obtain ⟨j, l', hp', hl'⟩ := hp.through (s.length + 1) (by simp)
  have hq := hp'.front (by omega)
  have hb := hq.band (m := m) (by omega)
  have hm := hq.mleast (m := m) (by omega)
  rw [mT_succ (by omega), if_pos hb] at hm
  unfold possB possTo
  rw [List.any_eq_true]
  refine ⟨j, List.mem_range.2 (by have := hq.bd; omega), ?_⟩
  rw [hlen, hb, h.row]
  simp only [Bool.true_and, decide_eq_true_eq]
  omega
/-- What the last number says. -/
theorem mT_can {m : Int} (hm : m < 200) (s r : List UInt8) : mT m s r s.length r.length ≤ m ↔ Can m s r :=
  ⟨fun h => by obtain ⟨l, hl, e⟩ := mT_reached (m := m) (s := s) (r := r) s.length r.length (Nat.le_refl _) (by omega)
               exact ⟨l, hl, by omega⟩, fun ⟨l, hl, h⟩ => by have := hl.mleast h; omega⟩
theorem can_eT {m : Int} (hm : m < 200) {s r : List UInt8} : Can m s r ↔ eT s r 0 0 ≤ m :=
  ⟨fun ⟨l, hl, h⟩ => by have := (hl.suf 0 .nil).most; omega, fun h => by
    obtain ⟨c, hc, e⟩ := eT_reached s.length 0 0 (by omega) (by omega) (s := s) (r := r) (by omega)
    obtain ⟨l, hl, el⟩ := hc.pre [] .nil
    simp at el
    exact ⟨l, hl, by omega⟩⟩
theorem mT_eT {m : Int} (hm : m < 200) {s r : List UInt8} (h : Can m s r) : mT m s r s.length r.length = eT s r 0 0 := by
  have h1 := (mT_can hm s r).2 h
  obtain ⟨l, hl, e⟩ := mT_reached (m := m) (s := s) (r := r) s.length r.length (Nat.le_refl _) (by omega)
  have := (hl.suf 0 .nil).most
  obtain ⟨c, hc, e'⟩ := eT_reached s.length 0 0 (by omega) (by omega) (s := s) (r := r) (by omega)
  obtain ⟨l', hl', el⟩ := hc.pre [] .nil
  simp at el
  have := hl'.mleast (m := m) (by omega)
  omega
end Go.Proofs.YtjbdmlpadoiicaaGreatDoor

/-! The words that a search over prefixes finds. Plain. -/
namespace Go.Proofs.YtjbdmlpadoiicaaGreatDoor

/-- The letters in their order, and all strings of so many letters. -/
def ltr (i : Nat) : UInt8 := signsL.getD (i + 1) 0
def allW : Nat → List (List UInt8)
  | 0 => [[]]
  | k + 1 => (List.range 26).flatMap fun i => (allW k).map (ltr i :: ·)
theorem ltr_sign (i : Nat) (h : i < 26) : signL ((i : Int) + 1) = [ltr i] := by
  unfold signL ltr
  rw [show (((i : Int) + 1) % 29).toNat = i + 1 by omega]
theorem ltr_let {i : Nat} (h : i < 26) : letB (ltr i) = true := by
  have : ∀ i : Fin 26, letB (ltr i) = true := by decide +kernel
  exact this ⟨i, h⟩
theorem ltr_of {c : UInt8} (h : letB c = true) : ∃ i, i < 26 ∧ ltr i = c := by
  have : ∀ c : Fin 256, letB (UInt8.ofNat c) = true → (List.range 26).any (fun i => ltr i == UInt8.ofNat c) = true := by decide +kernel
  have h2 := this ⟨c.toNat, c.toNat_lt⟩ (by simpa using h)
  rw [List.any_eq_true] at h2
  obtain ⟨i, hi, e⟩ := h2
  exact ⟨i, List.mem_range.1 hi, by simpa using e⟩
theorem ltr_inj {i j : Nat} (hi : i < 26) (hj : j < 26) (h : ltr i = ltr j) : i = j := by
  have : ∀ i j : Fin 26, ltr i = ltr j → i = j := by decide +kernel
  have := this ⟨i, hi⟩ ⟨j, hj⟩ h
  simpa using this
theorem mem_allW {x : List UInt8} : ∀ {k : Nat}, x ∈ allW k ↔ x.length = k ∧ x.all letB = true := by
  intro k
  induction k generalizing x with
  | zero =>
    simp only [allW, List.mem_singleton]
    exact ⟨fun h => by subst h; exact ⟨rfl, rfl⟩, fun h => List.length_eq_zero_iff.1 h.1⟩
  | succ k ih =>
    simp only [allW, List.mem_flatMap, List.mem_range, List.mem_map]
    constructor
    · rintro ⟨i, hi, v, hv, rfl⟩
      have := ih.1 hv
      exact ⟨by simp [this.1], by simp only [List.all_cons, ltr_let hi, this.2, Bool.and_self]⟩
    · rintro ⟨h1, h2⟩
      cases x with
      | nil => simp at h1
      | cons c v =>
        simp only [List.all_cons, Bool.and_eq_true] at h2
        obtain ⟨i, hi, rfl⟩ := ltr_of h2.1
        exact ⟨i, hi, v, ih.2 ⟨by simpa using h1, h2.2⟩, rfl⟩
theorem nodup_allW : ∀ k : Nat, (allW k).Nodup
  | 0 => by simp [allW]
  | k + 1 => by
    unfold allW List.Nodup
    rw [List.pairwise_flatMap]
    refine ⟨fun i _ => List.pairwise_map.2 ((nodup_allW k).imp fun h e => h (by simpa using e)), ?_⟩
    refine (List.nodup_range (n := 26)).imp_of_mem (fun {i j} hi hj hne => ?_)
    rintro x hx y hy e
    subst e
    simp only [List.mem_map] at hx hy
    obtain ⟨a, _, rfl⟩ := hx
    obtain ⟨b, _, e⟩ := hy
    exact hne (ltr_inj (List.mem_range.1 hi) (List.mem_range.1 hj) (by simp only [List.cons.injEq] at e; exact e.1.symm))

/-- A word with its fewest faults, if these are not too many. -/
def entry (m : Int) (r x : List UInt8) : List (List UInt8 × Int) := if eT (signalL x) r 0 0 ≤ m then [(x, eT (signalL x) r 0 0)] else []
/-- The words that begin so and have k letters more. -/
def foundG (m : Int) (r word : List UInt8) (k : Nat) : List (List UInt8 × Int) := (allW k).flatMap fun v => entry m r (word ++ v)
def foundK (m : Int) (r word : List UInt8) (k n : Nat) : List (List UInt8 × Int) := (List.range n).flatMap fun i => foundG m r (word ++ [ltr i]) k
theorem foundG_zero (m : Int) (r word : List UInt8) : foundG m r word 0 = entry m r word := by simp [foundG, allW]
theorem foundG_succ (m : Int) (r word : List UInt8) (k : Nat) : foundG m r word (k + 1) = foundK m r word k 26 := by
  simp only [foundG, foundK, allW, List.flatMap_assoc, List.flatMap_map, List.append_assoc, List.singleton_append]
theorem foundK_zero (m : Int) (r word : List UInt8) (k : Nat) : foundK m r word k 0 = [] := rfl
theorem foundK_succ (m : Int) (r word : List UInt8) (k n : Nat) : foundK m r word k (n + 1) = foundK m r word k n ++ foundG m r (word ++ [ltr n]) k := by simp [foundK, List.range_succ]
theorem foundK_pre (m : Int) (r word : List UInt8) (k : Nat) {a b : Nat} (h : a ≤ b) : foundK m r word k a <+: foundK m r word k b := by
  obtain ⟨d, rfl⟩ : ∃ d, b = a + d := ⟨b - a, by omega⟩
  clear h
  induction d with
  | zero => exact List.prefix_refl _
  | succ d ih => exact ih.trans ⟨_, (foundK_succ m r word k (a + d)).symm⟩
/-- What is spelt of a word of n letters. -/
def spelt (n : Nat) (word : List UInt8) : List UInt8 := flashL (signL n ++ word)
theorem spelt_snoc (n : Nat) (word : List UInt8) (c : UInt8) : spelt n (word ++ [c]) = spelt n word ++ flashL [c] := by
  unfold spelt flashL; rw [← List.append_assoc, List.flatMap_append]
theorem signal_spelt (word v : List UInt8) : ∃ t, signalL (word ++ v) = spelt (word.length + v.length) word ++ t := by
  refine ⟨flashL (v ++ behindL (word ++ v)) ++ [47], ?_⟩
  unfold signalL spelt textL aheadL flashL
  rw [List.length_append]
  simp [List.flatMap_append]
/-- Where what is spelt cannot become the beginning, no word is found. -/
theorem foundG_none {m : Int} (hm : m < 200) {r word : List UInt8} {k : Nat} (h : ∀ t, ¬ Can m (spelt (word.length + k) word ++ t) r) : foundG m r word k = [] := by
  unfold foundG
  rw [List.flatMap_eq_nil_iff]
  intro v hv
  unfold entry
  rw [if_neg]
  intro hc
  obtain ⟨t, e⟩ := signal_spelt word v
  rw [(mem_allW.1 hv).1] at e
  have := (can_eT hm).2 hc
  rw [e] at this
  exact h t this
/-- All words. -/
def foundL (m : Int) (r : List UInt8) (n : Nat) : List (List UInt8 × Int) := (List.range n).flatMap fun i => foundG m r [] (i + 1)
theorem foundL_succ (m : Int) (r : List UInt8) (n : Nat) : foundL m r (n + 1) = foundL m r n ++ foundG m r [] (n + 1) := by simp [foundL, List.range_succ]
theorem mem_found {m : Int} {r x : List UInt8} {n : Int} : (x, n) ∈ foundL m r 10 ↔ wordB x = true ∧ eT (signalL x) r 0 0 ≤ m ∧ n = eT (signalL x) r 0 0 := by
  simp only [foundL, foundG, entry, List.nil_append, List.mem_flatMap, List.mem_range]
  constructor
  · rintro ⟨i, hi, v, hv, h⟩
    split at h
    · rename_i c
      simp only [List.mem_singleton, Prod.mk.injEq] at h
      obtain ⟨rfl, rfl⟩ := h
      have := mem_allW.1 hv
      exact ⟨by unfold wordB; rw [this.2, decide_eq_true (by omega), decide_eq_true (by omega)]; rfl, c, rfl⟩
    · cases h
  · rintro ⟨h1, h2, rfl⟩
    have hp := word_parts h1
    exact ⟨x.length - 1, by omega, x, mem_allW.2 ⟨by omega, hp.2.2⟩, by rw [if_pos h2]; simp⟩
theorem map_entry (m : Int) (r : List UInt8) (l : List (List UInt8)) : (l.flatMap (entry m r)).map Prod.fst = l.filter fun x => decide (eT (signalL x) r 0 0 ≤ m) := by
  induction l with
  | nil => rfl
  | cons x l ih =>
    rw [List.flatMap_cons, List.map_append, ih, List.filter_cons]
    unfold entry
    by_cases c : eT (signalL x) r 0 0 ≤ m
    · simp [c]
    · simp [c]
theorem found_nodup (m : Int) (r : List UInt8) : ((foundL m r 10).map Prod.fst).Nodup := by
  have e : foundL m r 10 = ((List.range 10).flatMap fun i => allW (i + 1)).flatMap (entry m r) := by
    simp only [foundL, foundG, List.nil_append, List.flatMap_assoc]
  rw [e, map_entry]
  refine List.Pairwise.filter _ ?_
  rw [List.pairwise_flatMap]
  refine ⟨fun i _ => nodup_allW _, (List.nodup_range (n := 10)).imp_of_mem (fun {i j} hi hj hne => ?_)⟩
  rintro x hx y hy e
  subst e
  have h1 := (mem_allW.1 hx).1
  have h2 := (mem_allW.1 hy).1
  exact hne (by omega)
end Go.Proofs.YtjbdmlpadoiicaaGreatDoor
