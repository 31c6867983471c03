/- The reference's kind and touched, plain. -/
import Derived.Test.YtjbdmlpadoiicaaGreatDoorC1
import Derived.Test.YtjbdmlpadoiicaaGreatDoorE3
import Derived.Test.YtjbdmlpadoiicaaGreatDoorS3
set_option linter.unusedVariables false
set_option linter.unusedSimpArgs false
namespace Go.Proofs.YtjbdmlpadoiicaaGreatDoor
open Go.RowKit Go.Shelf

/-- The kind of the first fault that begins at a flash. -/
def kindR (l : List Flt) (p : Int) : Int := ((l.find? (fun f => decide (f.2 = p))).getD (0, 0)).1
theorem find_take {α : Type} (q : α → Bool) : ∀ (l : List α) (k : Nat), k < l.length → (∀ j (h : j < l.length), j < k → q l[j] = false) → (h : k < l.length) → q l[k] = true → l.find? q = some l[k]
  | f :: l, 0, _, _, _, h => by simp at h; simp [h]
  | f :: l, k + 1, hk, hn, h, hq => by
    have h0 := hn 0 (by simp) (by omega)
    simp at h0 hq
    have := find_take q l k (by simpa using hk) (fun j hj hjk => by have := hn (j + 1) (by simpa using hj) (by omega); simpa using this) (by simpa using hk) hq
    simp [h0, this]
/-- In how many faults a flash is. -/
def touchR (l : List Flt) (p : Int) : Nat := l.countP (covers p)
theorem count_take (q : Flt → Bool) (l : List Flt) (k : Nat) (h : k < l.length) : (l.take (k + 1)).countP q = (l.take k).countP q + (if q l[k] then 1 else 0) := by
  rw [List.take_succ_eq_append_getElem h, List.countP_append]; simp [List.countP_cons]
end Go.Proofs.YtjbdmlpadoiicaaGreatDoor

/-! What is received, fault by fault: the reference's way equals the table's. Plain. -/
namespace Go.Proofs.YtjbdmlpadoiicaaGreatDoor

/-- What a list of faults that can happen says of two of them: no flash is in both. -/
theorem can_apart {n : Int} {l : List Flt} (h : canE n l = 0) : (∀ j (hj : j < l.length), errF n (l.take j) l[j] = 0) := by
  intro j hj
  induction j using Nat.strongRecOn with
  | _ j ih =>
    apply Classical.byContradiction
    intro hc
    have := canE_err n l j hj (fun i hi => ih i hi (by omega)) hc
    exact hc (this.symm.trans h)
theorem can_before {n : Int} {l : List Flt} (h : canE n l = 0) {i j : Nat} (hij : i < j) (hj : j < l.length) {p : Int} (ci : covers p (l[i]'(by omega)) = true) (cj : covers p l[j] = true) : False := by
  have he := can_apart h j hj
  have hm : ∀ q : Int, covers q (l[i]'(by omega)) = true → (l.take j).any (covers q) = true := fun q hq =>
    List.any_eq_true.2 ⟨l[i]'(by omega), by rw [List.mem_take_iff_getElem]; exact ⟨i, by omega, rfl⟩, hq⟩
  unfold errF at he
  split at he
  · cases he
  · split at he
    · cases he
    · rename_i hn
      unfold covers at cj
      simp only [Bool.or_eq_true, Bool.and_eq_true, decide_eq_true_eq] at cj
      rcases cj with e | ⟨e3, e⟩
      · exact hn (.inl (by rw [e]; exact hm p ci))
      · exact hn (.inr ⟨e3, by rw [e]; exact hm p ci⟩)
theorem can_at {n : Int} {l : List Flt} (h : canE n l = 0) {f : Flt} (hf : f ∈ l) {p : Int} (hc : covers p f = true) : at? l p = f := by
  unfold at?
  cases hg : l.find? (covers p) with
  | none => exact absurd hc (by simpa using List.find?_eq_none.1 hg f hf)
  | some g =>
    have hgm := List.mem_of_find?_eq_some hg
    have hgc := List.find?_some hg
    obtain ⟨i, hi, rfl⟩ := List.getElem_of_mem hf
    obtain ⟨j, hj, rfl⟩ := List.getElem_of_mem hgm
    simp only [Option.getD_some]
    by_cases e : i = j
    · subst e; rfl
    · rcases Nat.lt_or_gt_of_ne e with hlt | hlt
      · exact (can_before h hlt hj hc hgc).elim
      · exact (can_before h hlt hi hgc hc).elim
/-- The flash p is not the second one of two that change places. -/
def ns (l : List Flt) (p : Int) : Prop := at? l p ≠ (3, p - 1)
theorem kind_cases {n : Int} {l : List Flt} (h : canE n l = 0) (p : Int) (hn : ns l p) :
    (kindR l p = 0 ∧ (at? l p).1 = 0) ∨ (kindR l p = 1 ∧ at? l p = (1, p)) ∨ (kindR l p = 2 ∧ at? l p = (2, p)) ∨ (kindR l p = 3 ∧ at? l p = (3, p) ∧ at? l (p + 1) = (3, p) ∧ p + 2 ≤ n ∧ 0 ≤ p) := by
  unfold kindR
  cases hk : l.find? (fun f => decide (f.2 = p)) with
  | none =>
    refine .inl ⟨rfl, ?_⟩
    apply Classical.byContradiction
    intro hne
    obtain ⟨hm, hc, hw, _, _⟩ := at_spec h p hne
    have h2 := List.find?_eq_none.1 hk _ hm
    simp only [decide_eq_true_eq] at h2
    unfold covers at hc
    simp only [Bool.or_eq_true, Bool.and_eq_true, decide_eq_true_eq] at hc
    rcases hc with e | ⟨e3, e⟩
    · exact h2 e
    · exact hn (Prod.ext e3 (by show (at? l p).2 = p - 1; omega))
  | some f =>
    have hm := List.mem_of_find?_eq_some hk
    have he : f.2 = p := by simpa using List.find?_some hk
    have ha := can_at h hm (covers_at he)
    obtain ⟨hw, h0, h1⟩ := canFrom_zero n l [] h f hm
    obtain ⟨k, q⟩ := f
    simp only at he hw h0 h1
    subst he
    simp only [Option.getD_some]
    rcases widthZ_cases k with e | ⟨e, rfl | rfl⟩ | ⟨e, rfl⟩
    · exact absurd e hw
    · exact .inr (.inl ⟨rfl, ha⟩)
    · exact .inr (.inr (.inl ⟨rfl, ha⟩))
    · exact .inr (.inr (.inr ⟨rfl, ha, can_at h hm (covers_at' rfl rfl), by omega, h0⟩))
theorem ns_of {n : Int} {l : List Flt} (h : canE n l = 0) (p : Int) (hn : (at? l p).1 ≠ 3 ∨ (at? l p).2 ≠ p) : ns l (p + 1) := by
  intro he
  have h3 : (at? l (p + 1)).1 ≠ 0 := by rw [he]; show (3 : Int) ≠ 0; decide
  obtain ⟨hm, _, _, _, _⟩ := at_spec h (p + 1) h3
  rw [he] at hm
  have := can_at h hm (p := p) (covers_at (by show p + 1 - 1 = p; omega))
  rw [this] at hn
  rcases hn with hn | hn
  · exact hn rfl
  · apply hn; show p + 1 - 1 = p; omega
theorem ns_start {n : Int} {l : List Flt} (h : canE n l = 0) : ns l 0 := by
  intro he
  have h3 : (at? l 0).1 ≠ 0 := by rw [he]; decide
  obtain ⟨hm, _, _, h0, _⟩ := at_spec h 0 h3
  rw [he] at h0
  exact absurd h0 (by decide)
theorem step_lost {s : List UInt8} {l : List Flt} (h : canE s.length l = 0) (k : Nat) (ha : at? l (k : Int) = (1, (k : Int))) : faultedK s l (k + 1) = faultedK s l k ∧ ns l ((k + 1 : Nat) : Int) := by
  refine ⟨by rw [faultedK_succ]; unfold pieceL; rw [ha]; simp, ?_⟩
  rw [Int.natCast_add]; exact ns_of h k (.inl (by rw [ha]; simp))
theorem step_twice {s : List UInt8} {l : List Flt} (h : canE s.length l = 0) (k : Nat) (ha : at? l (k : Int) = (2, (k : Int))) : faultedK s l (k + 1) = faultedK s l k ++ [s.getD k 0] ++ [s.getD k 0] ∧ ns l ((k + 1 : Nat) : Int) := by
  refine ⟨by rw [faultedK_succ]; unfold pieceL; rw [ha]; simp, ?_⟩
  rw [Int.natCast_add]; exact ns_of h k (.inl (by rw [ha]; simp))
theorem step_none {s : List UInt8} {l : List Flt} (h : canE s.length l = 0) (k : Nat) (ha : (at? l (k : Int)).1 = 0) : faultedK s l (k + 1) = faultedK s l k ++ [s.getD k 0] ∧ ns l ((k + 1 : Nat) : Int) := by
  refine ⟨by rw [faultedK_succ]; unfold pieceL; rw [ha]; simp, ?_⟩
  rw [Int.natCast_add]; exact ns_of h k (.inl (by rw [ha]; simp))
theorem step_swap {s : List UInt8} {l : List Flt} (h : canE s.length l = 0) (k : Nat) (ha : at? l (k : Int) = (3, (k : Int))) (hb : at? l ((k : Int) + 1) = (3, (k : Int))) : faultedK s l (k + 2) = faultedK s l k ++ [s.getD (k + 1) 0] ++ [s.getD k 0] ∧ ns l ((k + 2 : Nat) : Int) := by
  refine ⟨?_, ?_⟩
  · rw [show k + 2 = (k + 1) + 1 from rfl, faultedK_succ, faultedK_succ]
    have e1 : pieceL s l k = [s.getD (k + 1) 0] := by
      unfold pieceL; rw [ha]
      simp only []
      rw [if_neg (by decide), if_neg (by decide), if_pos True.intro, show (2 * (k : Int) + 1 - (k : Int)).toNat = k + 1 by omega]
    have e2 : pieceL s l (k + 1) = [s.getD k 0] := by
      unfold pieceL; rw [show ((k + 1 : Nat) : Int) = (k : Int) + 1 by omega, hb]
      simp only []
      rw [if_neg (by decide), if_neg (by decide), if_pos True.intro, show (2 * (k : Int) + 1 - ((k : Int) + 1)).toNat = k by omega]
    rw [e1, e2]
  · have := ns_of h ((k : Int) + 1) (.inr (by rw [hb]; show (k : Int) ≠ (k : Int) + 1; omega))
    rw [show ((k + 2 : Nat) : Int) = (k : Int) + 1 + 1 by omega]; exact this
end Go.Proofs.YtjbdmlpadoiicaaGreatDoor
