/- One more flash on a sheet, in plain words. -/
import Derived.Test.YtjhkgfbkpgnodaaGreatDoorD2
namespace Go.Proofs.YtjhkgfbkpgnodaaGreatDoor
open Go.RowKit

def psN (k : Nat) : Int := if k = 3 then 2 else 1
def prN (k : Nat) : Int := if k = 0 then 1 else if k = 1 then 0 else 2
def partsA : Array Value := #[.int .i64 0, .int .i64 1, .int .i64 1, .int .i64 1, .int .i64 1, .int .i64 0, .int .i64 2, .int .i64 1, .int .i64 2, .int .i64 3, .int .i64 2, .int .i64 2]
def Parts (w : World) : Prop := ∃ fr : TypeId × (Nat × Nat), w.heap[3]? = some (.cells partsA fr.1 fr.2)

theorem parts_at (k : Nat) (hk : k < 4) (w : World) : (Instr.index 179 (.agg partsA) (.int .i64 k)).run Tryz.prog w = .ok (.agg #[.int .i64 k, .int .i64 (psN k), .int .i64 (prN k)]) w := by
  rcases (by omega : k = 0 ∨ k = 1 ∨ k = 2 ∨ k = 3) with rfl | rfl | rfl | rfl <;> kernel_rfl

theorem ending_any (w : World) (Sb base : Nat) (r : List UInt8) (most : Int) (sent : List UInt8) (T : Nat → Nat → Int) (k i j : Nat) (hk : k < 4) (hS : Sheet w Sb base r most sent T) (hi : i ≤ sent.length) (hj : j ≤ r.length) :
    Calls Tryz.prog 122 #[.pointer (some ⟨Sb, 0, none⟩), .agg #[.int .i64 k, .int .i64 (psN k), .int .i64 (prN k)], .int .i64 i, .int .i64 j] w fun e w' => e = .returned (.int .i16 (endI T sent r k i j)) ∧ Below w.heap.size w w' := by
  rcases (by omega : k = 0 ∨ k = 1 ∨ k = 2 ∨ k = 3) with rfl | rfl | rfl | rfl
  · exact ending0 w Sb base r most sent T i j hS hi hj
  · exact ending1 w Sb base r most sent T i j hS hi hj
  · exact ending2 w Sb base r most sent T i j hS hi hj
  · exact ending3 w Sb base r most sent T i j hS hi hj

/-- The least number of the first k parts. -/
def minK (T : Nat → Nat → Int) (s r : List UInt8) (i j : Nat) : Nat → Int
  | 0 => 200
  | k + 1 => min (minK T s r i j k) (endI T s r k i j)
def inBand (most : Int) (n i j : Nat) : Bool := decide (max 0 ((i : Int) - most) ≤ j) && decide ((j : Int) ≤ min (n : Int) (i + most))
/-- The numbers when a flash has been added to what is sent, for the columns below m. -/
def midT (T : Nat → Nat → Int) (s r : List UInt8) (most : Int) (m : Int) (a b : Nat) : Int :=
  if a = s.length ∧ inBand most r.length a b = true ∧ (b : Int) < m then minK T s r a b 4 else T a b
def nextT (T : Nat → Nat → Int) (s r : List UInt8) (most : Int) (a b : Nat) : Int :=
  if a = s.length ∧ inBand most r.length a b = true then minK T s r a b 4 else T a b
/-- Whether what is received can begin so. -/
def possTo (T : Nat → Nat → Int) (s r : List UInt8) (most : Int) (m : Nat) : Bool := (List.range m).any fun j => inBand most r.length s.length j && decide (minK T s r s.length j 4 ≤ most)
def possB (T : Nat → Nat → Int) (s r : List UInt8) (most : Int) : Bool := possTo T s r most (r.length + 1)

theorem endI_congr {T T' : Nat → Nat → Int} {s r : List UInt8} {k i j : Nat} (h : ∀ a b, a < i → T a b = T' a b) : endI T s r k i j = endI T' s r k i j := by
  unfold endI
  split
  · split
    · rfl
    · rw [h _ _ (by omega)]
  · split
    · split
      · rfl
      · rw [h _ _ (by omega)]
    · split
      · split
        · rfl
        · rw [h _ _ (by omega)]
      · split
        · rfl
        · rw [h _ _ (by omega)]
theorem minK_congr {T T' : Nat → Nat → Int} {s r : List UInt8} {i j : Nat} (h : ∀ a b, a < i → T a b = T' a b) : ∀ k, minK T s r i j k = minK T' s r i j k
  | 0 => rfl
  | k + 1 => by simp only [minK]; rw [minK_congr h k, endI_congr h]
theorem endI_bd {T : Nat → Nat → Int} {s r : List UInt8} {k i j : Nat} (h : ∀ a b, a < 101 → b < 101 → 0 ≤ T a b ∧ T a b ≤ 200) (hi : i < 102) (hj : j < 101) : 0 ≤ endI T s r k i j ∧ endI T s r k i j ≤ 201 := by
  unfold endI
  split
  · split
    · omega
    · have := h (i - 1) (j - 1) (by omega) (by omega); split <;> omega
  · split
    · split
      · omega
      · have := h (i - 1) j (by omega) (by omega); omega
    · split
      · split
        · omega
        · have := h (i - 1) (j - 2) (by omega) (by omega); split <;> omega
      · split
        · omega
        · have := h (i - 2) (j - 2) (by omega) (by omega); split <;> omega
theorem minK_bd {T : Nat → Nat → Int} {s r : List UInt8} {i j : Nat} (h : ∀ a b, a < 101 → b < 101 → 0 ≤ T a b ∧ T a b ≤ 200) (hi : i < 102) (hj : j < 101) : ∀ k, 0 ≤ minK T s r i j k ∧ minK T s r i j k ≤ 200
  | 0 => by simp [minK]
  | k + 1 => by
    have := minK_bd h hi hj (s := s) (r := r) k
    have := endI_bd h hi hj (s := s) (r := r) (k := k)
    simp only [minK]; omega
theorem midT_fits {T : Nat → Nat → Int} {s r : List UInt8} {most m : Int} (h : ∀ a b, a < 101 → b < 101 → 0 ≤ T a b ∧ T a b ≤ 200) (a b : Nat) (ha : a < 101) (hb : b < 101) : 0 ≤ midT T s r most m a b ∧ midT T s r most m a b ≤ 200 := by
  unfold midT; split
  · exact minK_bd h (by omega) hb 4
  · exact h a b ha hb
theorem midT_old {T : Nat → Nat → Int} {s r : List UInt8} {most m : Int} (a b : Nat) (ha : a < s.length) : midT T s r most m a b = T a b := by
  unfold midT; rw [if_neg (by omega)]

/-- All blocks below base but Sb lie as they lay. -/
structure KeepSb (base Sb : Nat) (w w' : World) : Prop where
  os : w'.os = w.os
  tape : w'.tape = w.tape
  output : w'.output = w.output
  size : w.heap.size ≤ w'.heap.size
  block : ∀ k, k < base → k ≠ Sb → w'.heap[k]? = w.heap[k]?
theorem KeepSb.refl (base Sb : Nat) (w : World) : KeepSb base Sb w w := ⟨rfl, rfl, rfl, Nat.le_refl _, fun _ _ _ => rfl⟩
theorem KeepSb.trans {base Sb : Nat} {a b c : World} (h : KeepSb base Sb a b) (k : KeepSb base Sb b c) : KeepSb base Sb a c :=
  ⟨k.os.trans h.os, k.tape.trans h.tape, k.output.trans h.output, Nat.le_trans h.size k.size, fun i hi hs => (k.block i hi hs).trans (h.block i hi hs)⟩
theorem KeepSb.of_below {base Sb : Nat} {w w' : World} (h : Below base w w') : KeepSb base Sb w w' := ⟨h.os, h.tape, h.output, h.size, fun k hk _ => h.block k hk⟩
theorem KeepSb.setCell {base Sb : Nat} {w w' : World} (h : KeepSb base Sb w w') (o : Nat) (v : Value) : KeepSb base Sb w (w'.setCell ⟨Sb, o, none⟩ v) :=
  ⟨h.os, h.tape, h.output, by simpa using h.size, fun k hk hs => (Below.heap_setCell _ _ _ k hs).trans (h.block k hk hs)⟩
theorem KeepSb.below {base Sb n : Nat} {w w' : World} (h : KeepSb base Sb w w') (h1 : n ≤ base) (h2 : n ≤ Sb) : Below n w w' := ⟨h.os, h.tape, h.output, h.size, fun k hk => h.block k (by omega) (by omega)⟩
theorem KeepSb.parts {base Sb : Nat} {w w' : World} (h : KeepSb base Sb w w') (h1 : 3 < base) (h2 : 3 ≠ Sb) (hP : Parts w) : Parts w' := by
  obtain ⟨fr, hP⟩ := hP; exact ⟨fr, (h.block _ h1 h2).trans hP⟩
theorem Sheet.keep {w w' : World} {Sb base : Nat} {r : List UInt8} {most : Int} {sent : List UInt8} {T : Nat → Nat → Int} (h : Sheet w Sb base r most sent T) (hb : Below w.heap.size w w') : Sheet w' Sb base r most sent T := by
  obtain ⟨C, sv, hh, hC, h0, h1, h2, hrow, hT⟩ := h.lay
  refine ⟨⟨C, sv, (hb.block _ (Nat.lt_of_lt_of_le h.below h.small)).trans hh, hC, h0, h1, h2, ?_, hT⟩, h.below, Nat.le_trans h.small hb.size, h.fits, h.len, h.lenr⟩
  refine ⟨hrow.1, ?_⟩
  rcases hrow.2 with hn | ⟨g, cap, cur, hv, hg, hgb, rest⟩
  · exact .inl hn
  · exact .inr ⟨g, cap, cur, hv, hg, (hb.block g (Array.getElem?_eq_some_iff.1 hgb).1).trans hgb, rest⟩
/-- A number is written. -/
theorem Sheet.put {w : World} {Sb base : Nat} {r : List UInt8} {most : Int} {sent : List UInt8} {T : Nat → Nat → Int} (h : Sheet w Sb base r most sent T) (i j : Nat) (v : Int) (hi : i < 101) (hj : j < 101) (hv : 0 ≤ v ∧ v ≤ 200) :
    Sheet (w.setCell ⟨Sb, 3 + i * 101 + j, none⟩ (.int .i16 v)) Sb base r most sent (fun a b => if a = i ∧ b = j then v else T a b) := by
  obtain ⟨C, sv, hh, hC, h0, h1, h2, hrow, hT⟩ := h.lay
  refine ⟨⟨_, sv, heap_setCell_same hh _ _, by simpa using hC, ?_, ?_, ?_, ownsRow_setCell_below hrow h.below _, fun a b ha hb => ?_⟩, h.below, by simpa using h.small, fun a b ha hb => ?_, h.len, h.lenr⟩
  · rw [Array.getElem?_setIfInBounds_ne (by omega)]; exact h0
  · rw [Array.getElem?_setIfInBounds_ne (by omega)]; exact h1
  · rw [Array.getElem?_setIfInBounds_ne (by omega)]; exact h2
  · by_cases e : a = i ∧ b = j
    · obtain ⟨rfl, rfl⟩ := e
      rw [Array.getElem?_setIfInBounds_self_of_lt (by omega), if_pos ⟨rfl, rfl⟩]
    · rw [Array.getElem?_setIfInBounds_ne (by omega), hT a b ha hb, if_neg e]
  · by_cases e : a = i ∧ b = j
    · rw [if_pos e]; exact hv
    · rw [if_neg e]; exact h.fits a b ha hb
end Go.Proofs.YtjhkgfbkpgnodaaGreatDoor
