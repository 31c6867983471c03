/- Lists in strictly increasing order are determined by their members; what slices.Compact leaves of a sorted list is such a list. Plain. -/
import Derived.Lib.SlicesCompact
import Derived.Lib.RowBridge
namespace Go.Proofs.YtjhkgfbkpgnodaaGreatDoor

theorem lt_of_le_ne {a b : List UInt8} (h : a ≤ b) (k : a ≠ b) : a < b :=
  Classical.byContradiction fun c => k (List.le_antisymm h (List.not_lt.1 c))
theorem lt_irr (a : List UInt8) : ¬ a < a := List.lt_irrefl a
theorem lt_asymm' {a b : List UInt8} (h : a < b) : ¬ b < a := fun k => lt_irr a (List.lt_trans h k)

def Strict (l : List (List UInt8)) : Prop := l.Pairwise (· < ·)

theorem strict_ext : ∀ {a b : List (List UInt8)}, Strict a → Strict b → (∀ x, x ∈ a ↔ x ∈ b) → a = b
  | [], [], _, _, _ => rfl
  | [], y :: b, _, _, h => absurd ((h y).2 (by simp)) (by simp)
  | x :: a, [], _, _, h => absurd ((h x).1 (by simp)) (by simp)
  | x :: a, y :: b, ha, hb, h => by
    have ha' := List.pairwise_cons.1 ha
    have hb' := List.pairwise_cons.1 hb
    have exy : x = y := by
      rcases List.mem_cons.1 ((h x).1 (by simp)) with e | hx
      · exact e
      · rcases List.mem_cons.1 ((h y).2 (by simp)) with e | hy
        · exact e.symm
        · exact absurd (ha'.1 y hy) (lt_asymm' (hb'.1 x hx))
    subst exy
    congr 1
    refine strict_ext ha'.2 hb'.2 (fun z => ⟨fun hz => ?_, fun hz => ?_⟩)
    · rcases List.mem_cons.1 ((h z).1 (List.mem_cons_of_mem _ hz)) with e | k
      · subst e; exact absurd (ha'.1 z hz) (lt_irr z)
      · exact k
    · rcases List.mem_cons.1 ((h z).2 (List.mem_cons_of_mem _ hz)) with e | k
      · subst e; exact absurd (hb'.1 z hz) (lt_irr z)
      · exact k

theorem getElem!_mem' {zs : List (List UInt8)} {m : Nat} (h : m < zs.length) : zs.toArray[m]! = zs[m] := by simp [h]

theorem compactUpTo_facts {zs : List (List UInt8)} (hs : zs.Pairwise (· ≤ ·)) : ∀ m : Nat, m ≤ zs.length →
    Strict (Lib.compactUpTo zs.toArray m) ∧ (∀ x, x ∈ Lib.compactUpTo zs.toArray m ↔ x ∈ zs.take m) ∧ (∀ x, x ∈ Lib.compactUpTo zs.toArray m → ∀ h : 0 < m, ∀ h2 : m - 1 < zs.length, x ≤ zs[m - 1])
  | 0, _ => ⟨by simp [Lib.compactUpTo, Strict], by simp [Lib.compactUpTo], fun _ _ h => absurd h (by omega)⟩
  | m + 1, hm => by
    obtain ⟨h1, h2, h3⟩ := compactUpTo_facts hs m (by omega)
    have hml : m < zs.length := by omega
    have htake : ∀ x, x ∈ zs.take (m + 1) ↔ x ∈ zs.take m ∨ x = zs[m] := fun x => by
      rw [List.take_succ_eq_append_getElem hml, List.mem_append, List.mem_singleton]
    have hle : ∀ x, x ∈ Lib.compactUpTo zs.toArray m → x ≤ zs[m] := fun x hx => by
      have := (h2 x).1 hx
      obtain ⟨i, hi, rfl⟩ := List.getElem_of_mem this
      simp at hi
      rw [List.getElem_take]
      exact List.pairwise_iff_getElem.1 hs i m (by omega) hml (by omega)
    rw [Lib.compactUpTo_succ, getElem!_mem' hml]
    by_cases hk : Lib.keeps zs.toArray m = true
    · rw [if_pos hk]
      have hk' : m = 0 ∨ zs.toArray[m]! ≠ zs.toArray[m - 1]! := by simpa only [Lib.keeps, decide_eq_true_eq] using hk
      have hlt : ∀ x, x ∈ Lib.compactUpTo zs.toArray m → x < zs[m] := fun x hx => by
        rcases Nat.eq_zero_or_pos m with h0 | hp
        · subst h0; simp [Lib.compactUpTo] at hx
        · refine lt_of_le_ne (hle x hx) (fun e => ?_)
          have hx1 := h3 x hx hp (by omega)
          have hne := hk'.resolve_left (by omega)
          rw [getElem!_mem' hml, getElem!_mem' (show m - 1 < zs.length by omega)] at hne
          have h4 : zs[m - 1] ≤ zs[m] := List.pairwise_iff_getElem.1 hs (m - 1) m (by omega) hml (by omega)
          rw [e] at hx1
          exact hne (List.le_antisymm hx1 h4)
      refine ⟨?_, fun x => ?_, fun x hx _ _ => ?_⟩
      · refine List.pairwise_append.2 ⟨h1, by simp, fun a ha b hb => ?_⟩
        rw [List.mem_singleton.1 hb]; exact hlt a ha
      · rw [List.mem_append, List.mem_singleton, htake, h2]
      · rcases List.mem_append.1 hx with hx | hx
        · exact hle x hx
        · rw [List.mem_singleton.1 hx]; exact List.le_refl _
    · have hk' : Lib.keeps zs.toArray m = false := by simpa using hk
      rw [hk']
      simp only [Bool.false_eq_true, if_false, List.append_nil]
      have hm0 : 0 < m := by
        rcases Nat.eq_zero_or_pos m with h0 | hp
        · subst h0; simp [Lib.keeps] at hk'
        · exact hp
      have he : zs[m] = zs[m - 1] := by
        have : ¬ (m = 0 ∨ zs.toArray[m]! ≠ zs.toArray[m - 1]!) := by simpa only [Lib.keeps, decide_eq_false_iff_not] using hk'
        have := Classical.not_not.1 (fun h => this (.inr h))
        rwa [getElem!_mem' hml, getElem!_mem' (show m - 1 < zs.length by omega)] at this
      refine ⟨h1, fun x => ?_, fun x hx _ _ => hle x hx⟩
      rw [htake, h2]
      constructor
      · exact .inl
      · rintro (h | rfl)
        · exact h
        · rw [he]
          have : (zs.take m)[m - 1]'(by simp; omega) = zs[m - 1] := List.getElem_take
          rw [← this]; exact List.getElem_mem _

/-- A list sorted and cleared of repetitions. -/
def tidy (l : List (List UInt8)) : List (List UInt8) := Lib.compact (l.mergeSort fun x y => decide (x ≤ y))
theorem tidy_strict (l : List (List UInt8)) : Strict (tidy l) ∧ ∀ x, x ∈ tidy l ↔ x ∈ l := by
  have hs : (l.mergeSort fun x y => decide (x ≤ y)).Pairwise (· ≤ ·) := by
    have := List.pairwise_mergeSort (le := fun x y : List UInt8 => decide (x ≤ y)) (fun a b c h k => by simp at h k ⊢; exact List.le_trans h k) (fun a b => by simp; exact List.le_total a b) l
    exact List.pairwise_iff_getElem.2 (fun i j hi hj hij => by simpa using List.pairwise_iff_getElem.1 this i j hi hj hij)
  obtain ⟨h1, h2, _⟩ := compactUpTo_facts hs _ (Nat.le_refl _)
  refine ⟨h1, fun x => (h2 x).trans ?_⟩
  rw [List.take_of_length_le (Nat.le_refl _), List.mem_mergeSort]
theorem tidy_eq {l a : List (List UInt8)} (h : Strict a) (hm : ∀ x, x ∈ a ↔ x ∈ l) : tidy l = a :=
  strict_ext (tidy_strict l).1 h (fun x => ((tidy_strict l).2 x).trans (hm x).symm)
end Go.Proofs.YtjhkgfbkpgnodaaGreatDoor
