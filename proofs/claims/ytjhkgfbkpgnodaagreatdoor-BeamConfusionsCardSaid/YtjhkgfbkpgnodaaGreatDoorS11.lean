/- What flashes can become needs no more faults than were asked; the first string of two sorted lists that is in both. Plain. -/
import Derived.Test.YtjhkgfbkpgnodaaGreatDoorS9
import Derived.Test.YtjhkgfbkpgnodaaGreatDoorS0
import Derived.Test.YtjhkgfbkpgnodaaGreatDoorF0
namespace Go.Proofs.YtjhkgfbkpgnodaaGreatDoor

theorem Pre.len {s r : List UInt8} {i j : Nat} {l : List Flt} (h : Pre s r i j l) : j ≤ i + l.length := by
  induction h with
  | nil => simp
  | same _ _ _ _ ih => omega
  | lost _ _ ih => simp; omega
  | twice _ _ _ _ _ ih => simp; omega
  | swap _ _ _ _ _ ih => simp; omega
/-- The first i flashes become what is done, whatever is received behind it. -/
def PreD (s done : List UInt8) (i : Nat) (l : List Flt) : Prop := ∀ t, Pre s (done ++ t) i done.length l
theorem getD_app (a t : List UInt8) (x : UInt8) : (a ++ x :: t).getD a.length 0 = x := by
  rw [List.getD_eq_getElem?_getD, List.getElem?_append_right (Nat.le_refl _)]; simp
theorem getD_app2 (a t : List UInt8) (x y : UInt8) : (a ++ x :: y :: t).getD (a.length + 1) 0 = y := by
  rw [List.getD_eq_getElem?_getD, List.getElem?_append_right (by omega)]; simp
theorem PreD.one {s done : List UInt8} {i : Nat} {l : List Flt} (h : PreD s done i l) (hi : i < s.length) : PreD s (done ++ [s.getD i 0]) (i + 1) l := fun t => by
  have := h (s.getD i 0 :: t)
  rw [List.append_assoc, List.length_append]
  exact .same this hi (by simp) (getD_app _ _ _).symm
theorem cutL_snoc (s : List UInt8) (i k : Nat) (h1 : i ≤ k) (h2 : k < s.length) : cutL s i (k + 1) = cutL s i k ++ [s.getD k 0] := by
  unfold cutL
  rw [show k + 1 - i = (k - i) + 1 by omega, List.take_succ_eq_append_getElem (by rw [List.length_drop]; omega)]
  congr 1
  rw [List.getElem_drop, List.getD_eq_getElem?_getD, List.getElem?_eq_getElem h2]
  simp only [show i + (k - i) = k by omega]; rfl
theorem PreD.run {s done : List UInt8} {i : Nat} {l : List Flt} (h : PreD s done i l) : ∀ k : Nat, i ≤ k → k ≤ s.length → PreD s (done ++ cutL s i k) k l := by
  intro k
  induction k with
  | zero => intro h1 _; obtain rfl : i = 0 := by omega
            have : cutL s 0 0 = [] := by simp [cutL]
            rw [this, List.append_nil]; exact h
  | succ k ih =>
    intro h1 h2
    by_cases e : i = k + 1
    · subst e
      have : cutL s (k + 1) (k + 1) = [] := by simp [cutL]
      rw [this, List.append_nil]; exact h
    · have := (ih (by omega) (by omega)).one (by omega)
      rw [List.append_assoc, ← cutL_snoc s i k (by omega) (by omega)] at this
      exact this
theorem cutL_one (s : List UInt8) (k : Nat) (h : k < s.length) : cutL s k (k + 1) = [s.getD k 0] := by
  have := cutL_snoc s k k (Nat.le_refl _) h
  rw [this]; simp [cutL]
theorem PreD.lost {s done : List UInt8} {i : Nat} {l : List Flt} (h : PreD s done i l) (hi : i < s.length) : PreD s done (i + 1) (l ++ [(1, (i : Int))]) := fun t => .lost (h t) hi
theorem PreD.twice {s done : List UInt8} {i : Nat} {l : List Flt} (h : PreD s done i l) (hi : i < s.length) : PreD s (done ++ [s.getD i 0] ++ [s.getD i 0]) (i + 1) (l ++ [(2, (i : Int))]) := fun t => by
  have := h (s.getD i 0 :: s.getD i 0 :: t)
  rw [List.append_assoc, List.append_assoc, List.length_append, List.length_append]
  exact .twice this hi (by simp) (getD_app _ _ _).symm (getD_app2 _ _ _ _).symm
theorem PreD.swap {s done : List UInt8} {i : Nat} {l : List Flt} (h : PreD s done i l) (hi : i + 1 < s.length) : PreD s (done ++ [s.getD (i + 1) 0] ++ [s.getD i 0]) (i + 2) (l ++ [(3, (i : Int))]) := fun t => by
  have := h (s.getD (i + 1) 0 :: s.getD i 0 :: t)
  rw [List.append_assoc, List.append_assoc, List.length_append, List.length_append]
  exact .swap this hi (by simp) (getD_app2 _ _ _ _).symm (getD_app _ _ _).symm
/-- Each string of the walk is made by so many faults at most. -/
theorem walk_sound (s : List UInt8) : ∀ (left frm : Nat) (done : List UInt8) (l0 : List Flt), frm ≤ s.length → PreD s done frm l0 → ∀ x ∈ walkL s left frm done, ∃ l, Pre s x s.length x.length l ∧ l.length ≤ l0.length + left := by
  have base : ∀ (frm : Nat) (done : List UInt8) (l0 : List Flt), frm ≤ s.length → PreD s done frm l0 → Pre s (done ++ s.drop frm) s.length (done ++ s.drop frm).length l0 := by
    intro frm done l0 hf h
    have e : s.drop frm = cutL s frm s.length := by unfold cutL; rw [List.take_of_length_le (by simp)]
    have := h.run s.length hf (Nat.le_refl _) []
    rw [List.append_nil] at this
    rw [e]; exact this
  intro left
  induction left with
  | zero =>
    intro frm done l0 hf h x hx
    rw [walkL_zero, List.mem_singleton] at hx
    subst hx
    exact ⟨l0, base frm done l0 hf h, by omega⟩
  | succ left ih =>
    intro frm done l0 hf h x hx
    rw [walkL_succ] at hx
    rcases List.mem_cons.1 hx with rfl | hx
    · exact ⟨l0, base frm done l0 hf h, by omega⟩
    · unfold stepsL at hx
      obtain ⟨d, hd, hx⟩ := List.mem_flatMap.1 hx
      have hdl : frm + d < s.length := by have := List.mem_range.1 hd; omega
      have hr := h.run (frm + d) (by omega) (by omega)
      unfold stepL at hx
      rcases List.mem_append.1 hx with hx | hx
      · split at hx
        · rcases List.mem_append.1 hx with hx | hx
          · obtain ⟨l, h1, h2⟩ := ih _ _ _ (by omega) (hr.lost hdl) x hx
            exact ⟨l, h1, by simp at h2; omega⟩
          · rw [cutL_one s _ hdl] at hx
            obtain ⟨l, h1, h2⟩ := ih _ _ _ (by omega) (hr.twice hdl) x hx
            exact ⟨l, h1, by simp at h2; omega⟩
        · simp at hx
      · split at hx
        · rename_i hs
          have hd2 : frm + d + 1 < s.length := by unfold swapB at hs; simp only [Bool.and_eq_true, decide_eq_true_eq] at hs; exact hs.1
          rw [cutL_one s _ hdl, show frm + d + 2 = (frm + d + 1) + 1 from rfl, cutL_one s _ hd2] at hx
          obtain ⟨l, h1, h2⟩ := ih _ _ _ (by omega) (hr.swap hd2) x hx
          exact ⟨l, h1, by simp at h2; omega⟩
        · simp at hx
theorem out_sound {s : List UInt8} {n : Nat} {x : List UInt8} (h : x ∈ outL s n) : ∃ l, Pre s x s.length x.length l ∧ l.length ≤ n := by
  obtain ⟨l, h1, h2⟩ := walk_sound s n 0 [] [] (by omega) (fun t => .nil) x h
  exact ⟨l, h1, by simpa using h2⟩
/-- With one more fault nothing is lost. -/
theorem walk_mono (s : List UInt8) : ∀ (left frm : Nat) (done : List UInt8), ∀ x ∈ walkL s left frm done, x ∈ walkL s (left + 1) frm done := by
  intro left
  induction left with
  | zero =>
    intro frm done x hx
    rw [walkL_zero, List.mem_singleton] at hx
    rw [walkL_succ, hx]; simp
  | succ left ih =>
    intro frm done x hx
    rw [walkL_succ] at hx ⊢
    rcases List.mem_cons.1 hx with h | hx
    · rw [h]; simp
    · refine List.mem_cons_of_mem _ ?_
      unfold stepsL at hx ⊢
      obtain ⟨d, hd, hx⟩ := List.mem_flatMap.1 hx
      refine List.mem_flatMap.2 ⟨d, hd, ?_⟩
      unfold stepL at hx ⊢
      rcases List.mem_append.1 hx with hx | hx
      · refine List.mem_append.2 (.inl ?_)
        split at hx
        · rename_i c
          rw [if_pos c]
          rcases List.mem_append.1 hx with hx | hx
          · exact List.mem_append.2 (.inl (ih _ _ x hx))
          · exact List.mem_append.2 (.inr (ih _ _ x hx))
        · simp at hx
      · refine List.mem_append.2 (.inr ?_)
        split at hx
        · rename_i c
          rw [if_pos c]; exact ih _ _ x hx
        · simp at hx

/-! ### The first string that two lists share -/
def shareO (a b : List (List UInt8)) : Option (List UInt8) := a.find? (fun x => b.contains x)
theorem share_mem {a b : List (List UInt8)} {x : List UInt8} (h : shareO a b = some x) : x ∈ a ∧ x ∈ b :=
  ⟨List.mem_of_find?_eq_some h, by have := List.find?_some h; simpa using this⟩
theorem share_none {a b : List (List UInt8)} (h : shareO a b = none) : ∀ x, x ∈ a → x ∉ b := fun x hx hb => by
  have := List.find?_eq_none.1 h x hx
  simp at this
  exact this hb
theorem find_first {a : List (List UInt8)} (ha : Strict a) {p : List UInt8 → Bool} {x y : List UInt8} (h : a.find? p = some x) (hy : y ∈ a) (hp : p y = true) : x = y ∨ x < y := by
  induction a with
  | nil => simp at hy
  | cons z a ih =>
    have ha' := List.pairwise_cons.1 ha
    rw [List.find?_cons] at h
    split at h
    · cases h
      rcases List.mem_cons.1 hy with rfl | hy
      · exact .inl rfl
      · exact .inr (ha'.1 y hy)
    · rename_i hz
      rcases List.mem_cons.1 hy with rfl | hy
      · rw [hp] at hz; cases hz
      · exact ih ha'.2 h hy
theorem share_symm {a b : List (List UInt8)} (ha : Strict a) (hb : Strict b) : shareO a b = shareO b a := by
  cases h : shareO a b with
  | none =>
    cases k : shareO b a with
    | none => rfl
    | some y => exact absurd (share_mem k).1 (share_none h y (share_mem k).2)
  | some x =>
    obtain ⟨h1, h2⟩ := share_mem h
    cases k : shareO b a with
    | none => exact absurd h1 (share_none k x h2)
    | some y =>
      obtain ⟨k1, k2⟩ := share_mem k
      rcases find_first ha h k2 (by simpa using k1) with e | e
      · rw [e]
      · rcases find_first hb k h2 (by simpa using h1) with e' | e'
        · rw [e']
        · exact absurd e (lt_asymm' e')
theorem share_more {a b a' b' : List (List UInt8)} (h : shareO a b ≠ none) (ha : ∀ x ∈ a, x ∈ a') (hb : ∀ x ∈ b, x ∈ b') : shareO a' b' ≠ none := by
  cases e : shareO a b with
  | none => exact absurd e h
  | some x =>
    obtain ⟨h1, h2⟩ := share_mem e
    intro k
    exact share_none k x (ha x h1) (hb x h2)
theorem find_congr' {a : List (List UInt8)} {p q : List UInt8 → Bool} (h : ∀ z ∈ a, p z = q z) : a.find? p = a.find? q := by
  induction a with
  | nil => rfl
  | cons z a ih => rw [List.find?_cons, List.find?_cons, h z (by simp), ih (fun y hy => h y (List.mem_cons_of_mem _ hy))]
/-- One round of the search. -/
theorem share_eq {x : List UInt8} {a b : List (List UInt8)} : shareO (x :: a) (x :: b) = some x := by unfold shareO; rw [List.find?_cons]; simp
theorem share_lt {x y : List UInt8} {a b : List (List UInt8)} (hb : Strict (y :: b)) (h : x < y) : shareO (x :: a) (y :: b) = shareO a (y :: b) := by
  unfold shareO
  rw [List.find?_cons]
  have : (y :: b).contains x = false := by
    rw [List.contains_eq_mem, decide_eq_false_iff_not]
    intro hx
    rcases List.mem_cons.1 hx with e | hx
    · rw [e] at h; exact lt_irr y h
    · exact lt_asymm' h ((List.pairwise_cons.1 hb).1 x hx)
  rw [this]
theorem share_gt {x y : List UInt8} {a b : List (List UInt8)} (ha : Strict (x :: a)) (h : y < x) : shareO (x :: a) (y :: b) = shareO (x :: a) b := by
  unfold shareO
  refine find_congr' (fun z hz => ?_)
  have hne : z ≠ y := fun e => by
    subst e
    rcases List.mem_cons.1 hz with e | hz
    · rw [e] at h; exact lt_irr x h
    · exact lt_asymm' h ((List.pairwise_cons.1 ha).1 z hz)
  simp [hne]
theorem share_nil_left (b : List (List UInt8)) : shareO [] b = none := rfl
theorem share_nil_right (a : List (List UInt8)) : shareO a [] = none := by unfold shareO; rw [List.find?_eq_none]; simp
theorem Strict.tail {x : List UInt8} {a : List (List UInt8)} (h : Strict (x :: a)) : Strict a := (List.pairwise_cons.1 h).2
end Go.Proofs.YtjhkgfbkpgnodaaGreatDoor
