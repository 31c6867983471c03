/- The reference's merged: a row of strings in order. -/
import Derived.Test.YtjhkgfbkpgnodaaGreatDoorW0
import Derived.Test.YtjhkgfbkpgnodaaGreatDoorU4
import Derived.Test.YtjhkgfbkpgnodaaGreatDoorC2
import Derived.WalkLawsBesides
import Derived.Handy
namespace Go.Proofs.YtjhkgfbkpgnodaaGreatDoor
open Go.RowKit Go.Shelf

/-- A slice of strings that is not nil reads as a list. -/
def TRow (w : World) (v : Value) (l : List (List UInt8)) : Prop :=
  ∃ b off cap, v = .slice (some ⟨b, off, none⟩) l.length cap ∧ l.length ≤ cap ∧ b < w.heap.size ∧ ∀ i, i < l.length → w.cell? ⟨b, off + i, none⟩ = some (.string (B (l.getD i [])))
theorem TRow.of_owned {w : World} {base g cap : Nat} {l : List (List UInt8)} (h : w.ownsRow base 9 1 (.slice (some ⟨g, 0, none⟩) l.length cap) l.length (l.map encStr)) : TRow w (.slice (some ⟨g, 0, none⟩) l.length cap) l := by
  obtain ⟨h1, h2, h3⟩ := res_rows h
  exact ⟨g, 0, cap, rfl, h2, h1, fun i hi => by rw [Nat.zero_add]; exact h3 i hi⟩
theorem TRow.srow {w : World} {v : Value} {l : List (List UInt8)} (h : TRow w v l) : SRow w v l := by
  obtain ⟨b, off, cap, h1, h2, h3, h4⟩ := h
  exact .inr ⟨b, off, cap, h1, h3, h4⟩
abbrev leS (x y : List UInt8) : Bool := decide (x ≤ y)
theorem merge_take {x y : List UInt8} {a b : List (List UInt8)} (h : x ≤ y) : List.merge (x :: a) (y :: b) leS = x :: List.merge a (y :: b) leS := by
  rw [List.cons_merge_cons, if_pos (decide_eq_true h)]
theorem merge_drop {x y : List UInt8} {a b : List (List UInt8)} (h : ¬ x ≤ y) : List.merge (x :: a) (y :: b) leS = y :: List.merge (x :: a) b leS := by
  rw [List.cons_merge_cons, if_neg (by simpa using h)]
theorem merge_sorted {a b : List (List UInt8)} (ha : a.Pairwise (· ≤ ·)) (hb : b.Pairwise (· ≤ ·)) : (List.merge a b leS).Pairwise (· ≤ ·) := by
  have := List.pairwise_merge (le := leS) (fun a b c h k => by simp [leS] at h k ⊢; exact List.le_trans h k) (fun a b => by simp [leS]; exact List.le_total a b) a b (ha.imp (by simp [leS])) (hb.imp (by simp [leS]))
  exact this.imp (by simp [leS])
theorem sliceFrom_run (W : World) (g k n c h : Nat) (hh : h < n) (hc : n ≤ c) : (Instr.slice 41 (.slice (some ⟨g, k, none⟩) n c) (some (.int .i64 (h : Int))) none none).run Tryz.prog W = .ok (.slice (some ⟨g, k + h, none⟩) (n - h) (c - h)) W := by
  have h1 : (0 : Int) ≤ h ∧ (h : Int) ≤ (n : Int) := by omega
  have h2 : ¬ c = h := by omega
  simp [Instr.slice, Instr.sliceBounds, Instr.sliceBound, asIntOf, run_underlying Tryz.underlying41, h1, h2, go_sem]
  omega
theorem sliceTo_run (W : World) (g k n c h : Nat) (hh : h ≤ n) (hc : n ≤ c) : (Instr.slice 41 (.slice (some ⟨g, k, none⟩) n c) none (some (.int .i64 (h : Int))) none).run Tryz.prog W = .ok (.slice (some ⟨g, k, none⟩) h c) W := by
  have h1 : (0 : Int) ≤ h ∧ (h : Int) ≤ (c : Int) := by omega
  simp [Instr.slice, Instr.sliceBounds, Instr.sliceBound, asIntOf, run_underlying Tryz.underlying41, h1, go_sem]
  omega
theorem getD_drop0 {a A : List (List UInt8)} {x : List UInt8} {i : Nat} (h : a.drop i = x :: A) : i < a.length ∧ a.getD i [] = x ∧ a.drop (i + 1) = A := by
  refine ⟨?_, ?_, by rw [← List.tail_drop, h]; rfl⟩
  · have := congrArg List.length h; rw [List.length_drop] at this; simp at this; omega
  · have h0 : (a.drop i).getD 0 [] = x := by rw [h]; rfl
    rw [List.getD_eq_getElem?_getD, List.getElem?_drop, Nat.add_zero, ← List.getD_eq_getElem?_getD] at h0; exact h0
theorem rest_cells {w : World} {ra oa i i' : Nat} {a A : List (List UInt8)} (hd : a.drop i = A) (hi : A ≠ [] → i' = oa + i) (hc : ∀ k, k < a.length → w.cell? ⟨ra, oa + k, none⟩ = some (.string (B (a.getD k [])))) :
    ∀ ad, some (⟨ra, i', none⟩ : Addr) = some ad → ∀ t u, (A.map encStr)[t]? = some u → w.cell? (ad.add t) = some u := by
  intro ad had t u hu
  cases had
  have ht : t < A.length := by have := (List.getElem?_eq_some_iff.1 hu).1; simpa using this
  have e := hi (by rintro rfl; simp at ht)
  subst e
  have hl : i + t < a.length := by have := congrArg List.length hd; rw [List.length_drop] at this; omega
  rw [Addr.add_lit, Nat.add_assoc, hc _ hl]
  rw [List.getElem?_map, List.getElem?_eq_getElem ht] at hu
  simp only [Option.map_some, Option.some.injEq] at hu
  rw [← hu]
  subst hd
  rw [List.getElem_drop, List.getD_eq_getElem?_getD, List.getElem?_eq_getElem hl]; rfl
end Go.Proofs.YtjhkgfbkpgnodaaGreatDoor
