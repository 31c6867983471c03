/- One more flash on a sheet, in plain words. -/
import Derived.Test.YtjbdmlpadoiicaaGreatDoorD1
import Derived.Test.YtjbdmlpadoiicaaGreatDoorC2
set_option linter.unusedVariables false
set_option linter.unusedSimpArgs false
namespace Go.Proofs.YtjbdmlpadoiicaaGreatDoor
open Go.RowKit

def psN (k : Nat) : Int := if k = 3 then 2 else 1
def prN (k : Nat) : Int := if k = 0 then 1 else if k = 1 then 0 else 2
def partsA : Array Value := #[.int .i64 0, .int .i64 1, .int .i64 1, .int .i64 1, .int .i64 1, .int .i64 0, .int .i64 2, .int .i64 1, .int .i64 2, .int .i64 3, .int .i64 2, .int .i64 2]
def Parts (w : World) : Prop := ∃ fr : TypeId × (Nat × Nat), w.heap[3]? = some (.cells partsA fr.1 fr.2)

theorem parts_at (k : Nat) (hk : k < 4) (w : World) : (Instr.index 179 (.agg partsA) (.int .i64 k)).run Tryz.prog w = .ok (.agg #[.int .i64 k, .int .i64 (psN k), .int .i64 (prN k)]) w := by
  rcases (by omega : k = 0 ∨ k = 1 ∨ k = 2 ∨ k = 3) with rfl | rfl | rfl | rfl <;> kernel_rfl

theorem ending_any (w : World) (Sb base : Nat) (r : List UInt8) (most : Int) (sent : List UInt8) (T : Nat → Nat → Int) (k i j : Nat) (hk : k < 4) (hS : Sheet w Sb base r most sent T) (hi : i ≤ sent.length) (hj : j ≤ r.length) :
    Calls Tryz.prog 122 #[.pointer (some ⟨Sb, 0, none⟩), .agg #[.int .i64 k, .int .i64 (psN k), .int .i64 (prN k)], .int .i64 i, .int .i64 j] w fun e w' => e = .returned (.int .i16 (endI T sent r k i j)) ∧ Below w.heap.size w w' := by
  rcases (by omega : k = 0 ∨ k = 1 ∨ k = 2 ∨ k = 3) with rfl | rfl | rfl | rfl
  · exact ending0 w Sb base r most sent T i j hS hi hj
  · exact ending1 w Sb base r most sent T i j hS hi hj
  · exact ending2 w Sb base r most sent T i j hS hi hj
  · exact ending3 w Sb base r most sent T i j hS hi hj

/-- The least number of the first k parts. -/
def minK (T : Nat → Nat → Int) (s r : List UInt8) (i j : Nat) : Nat → Int
  | 0 => 200
  | k + 1 => min (minK T s r i j k) (endI T s r k i j)
def inBand (most : Int) (n i j : Nat) : Bool := decide (max 0 ((i : Int) - most) ≤ j) && decide ((j : Int) ≤ min (n : Int) (i + most))
/-- The numbers when a flash has been added to what is sent, for the columns below m. -/
def midT (T : Nat → Nat → Int) (s r : List UInt8) (most : Int) (m : Int) (a b : Nat) : Int :=
  if a = s.length ∧ inBand most r.length a b = true ∧ (b : Int) < m then minK T s r a b 4 else T a b
def nextT (T : Nat → Nat → Int) (s r : List UInt8) (most : Int) (a b : Nat) : Int :=
  if a = s.length ∧ inBand most r.length a b = true then minK T s r a b 4 else T a b
/-- Whether what is received can begin so. -/
def possTo (T : Nat → Nat → Int) (s r : List UInt8) (most : Int) (m : Nat) : Bool := (List.range m).any fun j => inBand most r.length s.length j && decide (minK T s r s.length j 4 ≤ most)
def possB (T : Nat → Nat → Int) (s r : List UInt8) (most : Int) : Bool := possTo T s r most (r.length + 1)

theorem endI_congr {T T' : Nat → Nat → Int} {s r : List UInt8} {k i j : Nat} (h : ∀ a b, a < i → T a b = T' a b) : endI T s r k i j = endI T' s r k i j := by
  unfold endI
  split
  · split
    · rfl
    · rw [h _ _ (by omega)]
  · split
    · split
      · rfl
      · rw [h _ _ (by omega)]
    · split
      · split
        · rfl
        · rw [h _ _ (by omega)]
      · split
        · rfl
        · rw [h _ _ (by omega)]
theorem minK_congr {T T' : Nat → Nat → Int} {s r : List UInt8} {i j : Nat} (h : ∀ a b, a < i → T a b = T' a b) : ∀ k, minK T s r i j k = minK T' s r i j k
  | 0 => rfl
  | k + 1 => by simp only [minK]; rw [minK_congr h k, endI_congr h]
theorem endI_bd {T : Nat → Nat → Int} {s r : List UInt8} {k i j : Nat} (h : ∀ a b, a < 101 → b < 101 → 0 ≤ T a b ∧ T a b ≤ 200) (hi : i < 102) (hj : j < 101) : 0 ≤ endI T s r k i j ∧ endI T s r k i j ≤ 201 := by
  unfold endI
  split
  · split
    · omega
    · have := h (i - 1) (j - 1) (by omega) (by omega); split <;> omega
  · split
    · split
      · omega
      · have := h (i - 1) j (by omega) (by omega); omega
    · split
      · split
        · omega
        · have := h (i - 1) (j - 2) (by omega) (by omega); split <;> omega
      · split
        · omega
        · have := h (i - 2) (j - 2) (by omega) (by omega); split <;> omega
theorem minK_bd {T : Nat → Nat → Int} {s r : List UInt8} {i j : Nat} (h : ∀ a b, a < 101 → b < 101 → 0 ≤ T a b ∧ T a b ≤ 200) (hi : i < 102) (hj : j < 101) : ∀ k, 0 ≤ minK T s r i j k ∧ minK T s r i j k ≤ 200
  | 0 => by simp [minK]
  | k + 1 => by
    have := minK_bd h hi hj (s := s) (r := r) k
    have := endI_bd h hi hj (s := s) (r := r) (k := k)
    simp only [minK]; omega
theorem midT_fits {T : Nat → Nat → Int} {s r : List UInt8} {most m : Int} (h : ∀ a b, a < 101 → b < 101 → 0 ≤ T a b ∧ T a b ≤ 200) (a b : Nat) (ha : a < 101) (hb : b < 101) : 0 ≤ midT T s r most m a b ∧ midT T s r most m a b ≤ 200 := by
  unfold midT; split
  · exact minK_bd h (by omega) hb 4
  · exact h a b ha hb
theorem midT_old {T : Nat → Nat → Int} {s r : List UInt8} {most m : Int} (a b : Nat) (ha : a < s.length) : midT T s r most m a b = T a b := by
  unfold midT; rw [if_neg (by omega)]

/-- All blocks below base but Sb lie as they lay. -/
structure KeepSb (base Sb : Nat) (w w' : World) : Prop where
  os : w'.os = w.os
  tape : w'.tape = w.tape
  output : w'.output = w.output
  size : w.heap.size ≤ w'.heap.size
  block : ∀ k, k < base → k ≠ Sb → w'.heap[k]? = w.heap[k]?
theorem KeepSb.refl (base Sb : Nat) (w : World) : KeepSb base Sb w w := ⟨rfl, rfl, rfl, Nat.le_refl _, fun _ _ _ => rfl⟩
theorem KeepSb.trans {base Sb : Nat} {a b c : World} (h : KeepSb base Sb a b) (k : KeepSb base Sb b c) : KeepSb base Sb a c :=
  ⟨k.os.trans h.os, k.tape.trans h.tape, k.output.trans h.output, Nat.le_trans h.size k.size, fun i hi hs => (k.block i hi hs).trans (h.block i hi hs)⟩
theorem KeepSb.of_below {base Sb : Nat} {w w' : World} (h : Below base w w') : KeepSb base Sb w w' := ⟨h.os, h.tape, h.output, h.size, fun k hk _ => h.block k hk⟩
theorem KeepSb.setCell {base Sb : Nat} {w w' : World} (h : KeepSb base Sb w w') (o : Nat) (v : Value) : KeepSb base Sb w (w'.setCell ⟨Sb, o, none⟩ v) :=
  ⟨h.os, h.tape, h.output, by simpa using h.size, fun k hk hs => (Below.heap_setCell _ _ _ k hs).trans (h.block k hk hs)⟩
theorem KeepSb.below {base Sb n : Nat} {w w' : World} (h : KeepSb base Sb w w') (h1 : n ≤ base) (h2 : n ≤ Sb) : Below n w w' := ⟨h.os, h.tape, h.output, h.size, fun k hk => h.block k (by omega) (by omega)⟩
theorem KeepSb.parts {base Sb : Nat} {w w' : World} (h : KeepSb base Sb w w') (h1 : 3 < base) (h2 : 3 ≠ Sb) (hP : Parts w) : Parts w' := by
  obtain ⟨fr, hP⟩ := hP; exact ⟨fr, (h.block _ h1 h2).trans hP⟩
theorem Sheet.keep {w w' : World} {Sb base : Nat} {r : List UInt8} {most : Int} {sent : List UInt8} {T : Nat → Nat → Int} (h : Sheet w Sb base r most sent T) (hb : Below w.heap.size w w') : Sheet w' Sb base r most sent T := by
  obtain ⟨C, sv, hh, hC, h0, h1, h2, hrow, hT⟩ := h.lay
  refine ⟨⟨C, sv, (hb.block _ (Nat.lt_of_lt_of_le h.below h.small)).trans hh, hC, h0, h1, h2, ?_, hT⟩, h.below, Nat.le_trans h.small hb.size, h.fits, h.len, h.lenr⟩
  refine ⟨hrow.1, ?_⟩
  rcases hrow.2 with hn | ⟨g, cap, cur, hv, hg, hgb, rest⟩
  · exact .inl hn
  · exact .inr ⟨g, cap, cur, hv, hg, (hb.block g (Array.getElem?_eq_some_iff.1 hgb).1).trans hgb, rest⟩
/-- A number is written. -/
theorem Sheet.put {w : World} {Sb base : Nat} {r : List UInt8} {most : Int} {sent : List UInt8} {T : Nat → Nat → Int} (h : Sheet w Sb base r most sent T) (i j : Nat) (v : Int) (hi : i < 101) (hj : j < 101) (hv : 0 ≤ v ∧ v ≤ 200) :
    Sheet (w.setCell ⟨Sb, 3 + i * 101 + j, none⟩ (.int .i16 v)) Sb base r most sent (fun a b => if a = i ∧ b = j then v else T a b) := by
  obtain ⟨C, sv, hh, hC, h0, h1, h2, hrow, hT⟩ := h.lay
  refine ⟨⟨_, sv, heap_setCell_same hh _ _, by simpa using hC, ?_, ?_, ?_, ownsRow_setCell_below hrow h.below _, fun a b ha hb => ?_⟩, h.below, by simpa using h.small, fun a b ha hb => ?_, h.len, h.lenr⟩
  · rw [Array.getElem?_setIfInBounds_ne (by omega)]; exact h0
  · rw [Array.getElem?_setIfInBounds_ne (by omega)]; exact h1
  · rw [Array.getElem?_setIfInBounds_ne (by omega)]; exact h2
  · by_cases e : a = i ∧ b = j
    · obtain ⟨rfl, rfl⟩ := e
      rw [Array.getElem?_setIfInBounds_self_of_lt (by omega), if_pos ⟨rfl, rfl⟩]
    · rw [Array.getElem?_setIfInBounds_ne (by omega), hT a b ha hb, if_neg e]
  · by_cases e : a = i ∧ b = j
    · rw [if_pos e]; exact hv
    · rw [if_neg e]; exact h.fits a b ha hb
end Go.Proofs.YtjbdmlpadoiicaaGreatDoor

/-! send of package beam: one more flash on a sheet. -/
namespace Go.Proofs.YtjbdmlpadoiicaaGreatDoor
open Go.RowKit Go.Shelf

/-- What is sent has grown. -/
theorem Sheet.sentTo {w w2 : World} {Sb base : Nat} {r : List UInt8} {most : Int} {sent sent' : List UInt8} {T : Nat → Nat → Int} (h : Sheet w Sb base r most sent T) (hb : Below base w w2) (v : Value)
    (hown : w2.ownsRow base 5 1 v sent'.length (sent'.map encU)) (hl : sent'.length ≤ 100) : Sheet (w2.setCell ⟨Sb, 2, none⟩ v) Sb base r most sent' T := by
  obtain ⟨C, sv, hh, hC, h0, h1, h2, hrow, hT⟩ := h.lay
  refine ⟨⟨_, v, heap_setCell_same ((hb.block _ h.below).trans hh) _ _, by simpa using hC, ?_, ?_, ?_, ownsRow_setCell_below hown h.below _, fun a b ha hb => ?_⟩, h.below, by simpa using Nat.le_trans h.small hb.size, h.fits, hl, h.lenr⟩
  · rw [Array.getElem?_setIfInBounds_ne (by omega)]; exact h0
  · rw [Array.getElem?_setIfInBounds_ne (by omega)]; exact h1
  · rw [Array.getElem?_setIfInBounds_self_of_lt (by omega)]
  · rw [Array.getElem?_setIfInBounds_ne (by omega)]; exact hT a b ha hb

theorem infoParts : (Tryz.prog.info? 179).map (·.size) = some partsA.size := by kernel_rfl
theorem inBand_lo {most : Int} {n i j : Nat} (h : (j : Int) < max 0 ((i : Int) - most)) : inBand most n i j = false := by
  unfold inBand; rw [decide_eq_false (by omega)]; rfl
theorem possTo_start {T : Nat → Nat → Int} {s r : List UInt8} {most : Int} {m : Nat} (h : (m : Int) = max 0 ((s.length : Int) - most)) : possTo T s r most m = false := by
  unfold possTo
  rw [List.any_eq_false]
  intro j hj
  have := List.mem_range.1 hj
  rw [inBand_lo (by omega)]; simp
theorem midT_start {T : Nat → Nat → Int} {s r : List UInt8} {most : Int} {m : Int} (h : m = max 0 ((s.length : Int) - most)) : midT T s r most m = T := by
  funext a b
  unfold midT
  rw [if_neg]
  rintro ⟨rfl, hb, hc⟩
  rw [inBand_lo (by omega)] at hb; cases hb
theorem possTo_succ {T : Nat → Nat → Int} {s r : List UInt8} {most : Int} {m : Nat} (h : inBand most r.length s.length m = true) : possTo T s r most (m + 1) = (possTo T s r most m || decide (minK T s r s.length m 4 ≤ most)) := by
  unfold possTo
  rw [List.range_succ, List.any_append]
  simp [h]
theorem midT_succ {T : Nat → Nat → Int} {s r : List UInt8} {most : Int} {m : Nat} (h : inBand most r.length s.length m = true) :
    midT T s r most ((m + 1 : Nat) : Int) = fun a b => if a = s.length ∧ b = m then minK T s r s.length m 4 else midT T s r most m a b := by
  funext a b
  by_cases e : a = s.length ∧ b = m
  · obtain ⟨rfl, rfl⟩ := e
    rw [if_pos ⟨rfl, rfl⟩]; unfold midT; rw [if_pos ⟨rfl, h, by omega⟩]
  · rw [if_neg e]; unfold midT
    by_cases c : a = s.length ∧ inBand most r.length a b = true ∧ (b : Int) < m
    · rw [if_pos c, if_pos ⟨c.1, c.2.1, by omega⟩]
    · rw [if_neg c, if_neg]
      rintro ⟨x, y, z⟩
      exact c ⟨x, y, by omega⟩
theorem possTo_end {T : Nat → Nat → Int} {s r : List UInt8} {most : Int} {m : Nat} (h : ¬ (m : Int) ≤ min (r.length : Int) (s.length + most)) : possTo T s r most m = possB T s r most := by
  have key : ∀ j, inBand most r.length s.length j = true → j < m ∧ j < r.length + 1 := fun j hj => by
    unfold inBand at hj
    simp only [Bool.and_eq_true, decide_eq_true_eq] at hj
    omega
  unfold possB possTo
  rw [Bool.eq_iff_iff, List.any_eq_true, List.any_eq_true]
  constructor
  · rintro ⟨j, _, hj⟩
    have := key j (by simp only [Bool.and_eq_true] at hj; exact hj.1)
    exact ⟨j, List.mem_range.2 this.2, hj⟩
  · rintro ⟨j, _, hj⟩
    have := key j (by simp only [Bool.and_eq_true] at hj; exact hj.1)
    exact ⟨j, List.mem_range.2 this.1, hj⟩
theorem midT_end {T : Nat → Nat → Int} {s r : List UInt8} {most : Int} {m : Nat} (h : ¬ (m : Int) ≤ min (r.length : Int) (s.length + most)) : midT T s r most m = nextT T s r most := by
  funext a b
  unfold midT nextT
  by_cases c : a = s.length ∧ inBand most r.length a b = true
  · rw [if_pos c, if_pos]
    refine ⟨c.1, c.2, ?_⟩
    have := c.2
    unfold inBand at this
    simp only [Bool.and_eq_true, decide_eq_true_eq] at this
    obtain ⟨rfl, _⟩ := c
    omega
  · rw [if_neg c, if_neg]
    exact fun x => c ⟨x.1, x.2.1⟩

theorem row_some {w : World} {base : Nat} {e : TypeId} {size : Nat} {v : Value} {n : Nat} {xs : List Value} (h : w.ownsRow base e size v n xs) (hn : 0 < n) : ∃ g cap, v = .slice (some ⟨g, 0, none⟩) n cap := by
  rcases h.2 with ⟨_, h⟩ | ⟨g, cap, cur, hv, _⟩
  · omega
  · exact ⟨g, cap, hv⟩

set_option maxRecDepth 100000 in
set_option maxHeartbeats 1000000 in
theorem send_any (w : World) (Sb base : Nat) (r : List UInt8) (most : Int) (sent : List UInt8) (T : Nat → Nat → Int) (c : UInt8) (hS : Sheet w Sb base r most sent T) (hl : sent.length < 100) (hm : 0 ≤ most ∧ most ≤ 100)
    (hP : Parts w) (hp1 : 3 < base) (hp2 : 3 ≠ Sb) :
    Calls Tryz.prog 98 #[.pointer (some ⟨Sb, 0, none⟩), .int .u8 c.toNat] w fun e w' => e = .returned (.bool (possB T (sent ++ [c]) r most)) ∧ Sheet w' Sb base r most (sent ++ [c]) (nextT T (sent ++ [c]) r most) ∧ KeepSb base Sb w w' := by
  obtain ⟨sent', hse⟩ : ∃ s, sent ++ [c] = s := ⟨_, rfl⟩
  have hsl : sent'.length = sent.length + 1 := by rw [← hse]; simp
  rw [hse]
  obtain ⟨C, sv, hh, hC, h0, h1, h2, hrow, hT⟩ := hS.lay
  have c2 : w.cell? ⟨Sb, 2, none⟩ = some sv := by rw [cell_of_heap hh]; exact h2
  obtain ⟨i0, hi, hz0, hz2, hz3⟩ := info_parts info_u8
  have hSs := Lib.hid hS
  have hlen := hS.len
  have hlenr := hS.lenr
  have hsm := hS.small
  have HTf := Lib.hid hS.fits
  have hbe := hS.below
  have HC := Lib.hid (And.intro hh (And.intro h0 h1))
  clear hh h0 h1 h2 hT hC hS
  have hm0 := hm.1
  have hm1 := hm.2
  go_enter Tryz.func98, Tryz.ntmps98
  go_wp2_with (at_builtin; refine wpList_append_own _ rfl _ _ 105 rfl base 5 i0 (.int .u8 0) 1 1 Tryz.underlying105 hi hz0 hz2 hz3 rfl (by decide) _ _ _ rfl (hrow.alloc _) ⟨w.heap.size, 0, none⟩ 1 1 [.int .u8 c.toNat] rfl rfl (cell_one_new _ _ _) (by simp [Value.oneCell']) (by unfold maxLen; omega) (by omega) (by simp; omega) ?_; intro v' w2 hown' hgrow _; obtain ⟨g2, cap2, rfl⟩ := row_some hown' (by omega); have hb2 : Below base w w2 := ((Below.refl base w).alloc hsm _).grown hgrow (by simp; omega) (fun k e => (hrow.lt k e).1); have c2' : w2.cell? ⟨Sb, 2, none⟩ = some sv := (hb2.cell (p := ⟨Sb, 2, none⟩) hbe).trans c2; have c1' : w2.cell? ⟨Sb, 1, none⟩ = some (.int .i64 most) := (hb2.cell (p := ⟨Sb, 1, none⟩) hbe).trans ((cell_of_heap HC.out.1 _).trans HC.out.2.2); have f2 : w2.frozen? ⟨Sb, 2, none⟩ = false := free_of_heap ((hb2.block _ hbe).trans HC.out.1) _; clear hgrow c2)
  have SS := hSs.out.sentTo hb2 (.slice (some ⟨g2, 0, none⟩) (sent.length + 1) cap2) (sent' := sent') (by rw [show sent'.length = sent.length + 1 from hsl, ← hse]; simpa [encU] using hown') (by omega)
  have KK := (KeepSb.of_below (Sb := Sb) hb2).setCell 2 (.slice (some ⟨g2, 0, none⟩) (sent.length + 1) cap2)
  obtain ⟨W1, hW1⟩ : ∃ W1, w2.setCell ⟨Sb, 2, none⟩ (.slice (some ⟨g2, 0, none⟩) (sent.length + 1) cap2) = W1 := ⟨_, rfl⟩
  rw [hW1] at SS KK ⊢
  clear hW1 hown' c2' c1' f2 HC hrow hSs hb2
  obtain ⟨lo, hlo⟩ : ∃ lo : Nat, max 0 ((sent.length : Int) + 1 - most) = lo := ⟨(max 0 ((sent.length : Int) + 1 - most)).toNat, by omega⟩
  go_loopw [6, 7] (fun p j wr => ∃ J : Nat, lo ≤ J ∧ J ≤ 101 ∧ ((J : Int) ≤ min (r.length : Int) (sent.length + 1 + most) + 1 ∨ J = lo) ∧ j = .int .i64 J ∧ p = .bool (possTo T sent' r most J) ∧ Hid (Sheet wr Sb base r most sent' (midT T sent' r most J)) ∧ KeepSb base Sb w wr) (fun _ j _ => 102 - (intOf j).toNat)
  case atStart =>
    exact ⟨lo, Nat.le_refl _, by omega, .inr rfl, by rw [hlo], by rw [possTo_start (by omega)], Lib.hid (by rw [midT_start (by omega)]; exact SS), KK⟩
  case round =>
    have HLO := Lib.hid hlo
    clear KK SS hlo
    obtain ⟨J, hJ0, hJ1, hJ2, rfl, rfl, hX, hKp⟩ := hrel
    have c0 : wr.cell? ⟨Sb, 0, none⟩ = some (.string (B r)) := by
      obtain ⟨C', sv', hh, hC, h0, h1, h2, hrow, hT⟩ := hX.out.lay
      rw [cell_of_heap hh]; exact h0
    have c1 : wr.cell? ⟨Sb, 1, none⟩ = some (.int .i64 most) := by
      obtain ⟨C', sv', hh, hC, h0, h1, h2, hrow, hT⟩ := hX.out.lay
      rw [cell_of_heap hh]; exact h1
    have w1 : IntKind.i64.wrap ((sent.length : Int) + 1 + most) = (sent.length : Int) + 1 + most := IntWalk.i64_in _ (by omega)
    by_cases hin : (J : Int) ≤ min (r.length : Int) (sent.length + 1 + most)
    · have hq : decide ((J : Int) ≤ min (r.length : Int) ((sent.length : Int) + 1 + most)) = true := decide_eq_true hin
      obtain ⟨⟨ft, fr⟩, hpp⟩ := hKp.parts hp1 hp2 hP
      have hpp' : ∀ m, (wr.drewN m).heap[3]? = some (.cells partsA ft fr) := fun _ => hpp
      go_wp2_with fail
      go_quiet (fail)
      go_wp2_with (((with_reducible refine wpList_load_row rfl 179 _ rfl 3 ?_ ft partsA fr (.array 4 178) (hpp' _) Tryz.underlying179 ?_ infoParts ?_); exact rfl; exact rfl))
      obtain ⟨wo, rfl⟩ : ∃ wo, wo = wr := ⟨_, rfl⟩
      go_loopw [8, 50] (fun v kk wj => ∃ k : Nat, k ≤ 4 ∧ kk = .int .i64 k ∧ v = .int .i16 (minK T sent' r sent'.length J k) ∧ Below wo.heap.size wo wj) (fun _ kk _ => 4 - (intOf kk).toNat)
      case atStart => exact ⟨0, by omega, rfl, rfl, below_drewN (Below.refl _ _) _⟩
      case round =>
        obtain ⟨k, hk, rfl, rfl, hB⟩ := hrel
        by_cases hk4 : k < 4
        · have hix : ∀ W', (Instr.index 179 (.agg partsA) (.int .i64 k)).run Tryz.prog W' = .ok (.agg #[.int .i64 k, .int .i64 (psN k), .int .i64 (prN k)]) W' := parts_at k hk4
          have hbk : Below wr.heap.size wr (wr.alloc (.cells #[.int .i64 k, .int .i64 (psN k), .int .i64 (prN k)] 178)) := (Below.refl _ wr).alloc (Nat.le_refl _) _
          have XS := (hX.out.keep hB).keep hbk
          have hE : endI (midT T sent' r most J) sent' r k sent'.length J = endI T sent' r k sent'.length J := endI_congr fun a b ha => midT_old a b ha
          have hCl := ending_any _ Sb base r most sent' _ k sent'.length J hk4 XS (Nat.le_refl _) (by omega)
          rw [hE, hsl] at hCl
          have HCl := Lib.hid hCl
          have HM : Hid (minK T sent' r sent'.length J (k + 1) = min (minK T sent' r sent'.length J k) (endI T sent' r k (sent.length + 1) J)) := Lib.hid (by rw [← hsl]; rfl)
          clear hE XS hCl
          go_wp2_with fail
          refine HCl.out.mono ?_
          rintro e w' ⟨rfl, hb'⟩
          go_wp2_with fail
          go_roundw
          case rel => exact ⟨k + 1, by omega, by go_num, by rw [HM.out, hsl], (hB.trans (hbk.mono hB.size)).trans (hb'.mono (Nat.le_trans hB.size hbk.size))⟩
          case measure => simp [intOf]; omega
        · obtain rfl : k = 4 := by omega
          have hTf := HTf.out
          have hXb := hX.out.keep hB
          have hM := minK_bd hTf (s := sent') (r := r) (i := sent'.length) (j := J) (by omega) (by omega) 4
          have hlo := HLO.out
          have hib : inBand most r.length sent'.length J = true := by unfold inBand; rw [decide_eq_true (by omega), decide_eq_true (by omega)]; rfl
          have HPs := Lib.hid (possTo_succ (T := T) (s := sent') (r := r) (most := most) hib)
          have HMs := Lib.hid (midT_succ (T := T) (s := sent') (r := r) (most := most) hib)
          have d1 : wr.cell? ⟨Sb, 1, none⟩ = some (.int .i64 most) := by
            obtain ⟨C', sv', hh, hC, h0, h1, h2, hrow, hT⟩ := hXb.lay
            rw [cell_of_heap hh]; exact h1
          obtain ⟨ov, d2⟩ : ∃ ov, wr.cell? ⟨Sb, 3 + (sent.length + 1) * 101 + J, none⟩ = some (.int .i16 ov) := by
            obtain ⟨C', sv', hh, hC, h0, h1, h2, hrow, hT⟩ := hXb.lay
            exact ⟨_, (cell_of_heap hh _).trans (hT (sent.length + 1) J (by omega) (by omega))⟩
          have f2 : wr.frozen? ⟨Sb, 3 + (sent.length + 1) * 101 + J, none⟩ = false := by
            obtain ⟨C', sv', hh, _⟩ := hXb.lay
            exact free_of_heap hh _
          rw [hsl] at hM HPs HMs ⊢
          obtain ⟨M, eM⟩ : ∃ M, minK T sent' r (sent.length + 1) J 4 = M := ⟨_, rfl⟩
          obtain ⟨pb, ePb⟩ : ∃ pb, possTo T sent' r most J = pb := ⟨_, rfl⟩
          rw [eM] at hM HPs HMs ⊢
          rw [ePb] at HPs ⊢
          have hM0 := hM.1
          have hM1 := hM.2
          have wM : IntKind.i64.wrap M = M := IntWalk.i64_in _ (by omega)
          have XP := Lib.hid (hXb.put (sent.length + 1) J M (by omega) (by omega) hM)
          have hKK := Lib.hid ((hKp.trans (KeepSb.of_below (hB.mono (Nat.le_trans hsm hKp.size)))).setCell (3 + (sent.length + 1) * 101 + J) (.int .i16 M))
          clear hTf hXb hM hib eM ePb hlo
          cases pb <;> by_cases hMm : M ≤ most
          all_goals
            go_wp2_with fail
            go_roundw
            case rel => exact ⟨J + 1, by omega, by omega, .inl (by omega), by go_num, by rw [HPs.out]; simp [hMm], Lib.hid (by rw [HMs.out]; exact XP.out), hKK.out⟩
            case measure => simp [intOf]; omega
    · have hq : decide ((J : Int) ≤ min (r.length : Int) ((sent.length : Int) + 1 + most)) = false := decide_eq_false hin
      have HPE := Lib.hid (possTo_end (T := T) (s := sent') (r := r) (most := most) (m := J) (by rw [hsl]; omega))
      have HME := Lib.hid (midT_end (T := T) (s := sent') (r := r) (most := most) (m := J) (by rw [hsl]; omega))
      have HKp := Lib.hid hKp
      clear hin hKp hJ2
      go_wp2_with fail
      go_quiet (fail)
      go_wp2_with fail
      have hbq : Below wr.heap.size wr (wr.drewN nq) := below_drewN (Below.refl _ _) _
      go_ret
      exact ⟨ret_val (by rw [HPE.out]; rfl), by rw [← HME.out]; exact hX.out.keep hbq, HKp.out.trans (KeepSb.of_below (hbq.mono (Nat.le_trans hsm HKp.out.size)))⟩
end Go.Proofs.YtjbdmlpadoiicaaGreatDoor

/-! filled and fewest of package beam. -/
namespace Go.Proofs.YtjbdmlpadoiicaaGreatDoor
open Go.RowKit Go.Shelf

/-- fewest: the number in the last row and column, if it is not too great. -/
def fewV (T : Nat → Nat → Int) (n m : Nat) (most : Int) : Value := if T n m ≤ most then .tuple #[.int .i64 (T n m), .bool true] else .tuple #[.int .i64 0, .bool false]

set_option maxRecDepth 100000 in
theorem sfewest_any (w : World) (Sb base : Nat) (r : List UInt8) (most : Int) (sent : List UInt8) (T : Nat → Nat → Int) (hS : Sheet w Sb base r most sent T) (hm : 0 ≤ most ∧ most ≤ 100) :
    Calls Tryz.prog 66 #[.pointer (some ⟨Sb, 0, none⟩)] w fun e w' => e = .returned (fewV T sent.length r.length most) ∧ Below w.heap.size w w' := by
  have hlen := hS.len
  have hlenr := hS.lenr
  have hft := hS.fits sent.length r.length (by omega) (by omega)
  obtain ⟨C, sv, hh, hC, h0, h1, h2, hrow, hT⟩ := hS.lay
  have c0 : w.cell? ⟨Sb, 0, none⟩ = some (.string (B r)) := by rw [cell_of_heap hh]; exact h0
  have c1 : w.cell? ⟨Sb, 1, none⟩ = some (.int .i64 most) := by rw [cell_of_heap hh]; exact h1
  have c2 : w.cell? ⟨Sb, 2, none⟩ = some sv := by rw [cell_of_heap hh]; exact h2
  have cT : w.cell? ⟨Sb, 3 + sent.length * 101 + r.length, none⟩ = some (.int .i16 (T sent.length r.length)) := by rw [cell_of_heap hh]; exact hT _ _ (by omega) (by omega)
  obtain ⟨a, cap, rfl⟩ : ∃ a cap, sv = .slice a sent.length cap := by
    rcases hrow.2 with ⟨h, h'⟩ | ⟨g, cap, cur, hv, _⟩
    · exact ⟨none, 0, by rw [h, show sent.length = 0 by omega]⟩
    · exact ⟨_, _, hv⟩
  obtain ⟨t, et⟩ : ∃ t, T sent.length r.length = t := ⟨_, rfl⟩
  rw [et] at cT hft
  have wt : IntKind.i64.wrap t = t := IntWalk.i64_in _ (by omega)
  have HF : Hid (fewV T sent.length r.length most = if t ≤ most then .tuple #[.int .i64 t, .bool true] else .tuple #[.int .i64 0, .bool false]) := Lib.hid (by unfold fewV; rw [et])
  clear et hS hh hC h0 h1 h2 hrow hT
  by_cases hc : t ≤ most
  · have HF2 := Lib.hid (HF.out.trans (if_pos hc))
    have hq : decide (most < t) = false := decide_eq_false (by omega)
    clear hc HF
    go_enter Tryz.func66, Tryz.ntmps66
    go_wp2_with fail
    go_quiet (fail)
    go_wp2_with fail
    go_ret2
    exact ⟨ret_val (by rw [HF2.out]; rfl), below_drewN (Below.refl _ _) _⟩
  · have HF2 := Lib.hid (HF.out.trans (if_neg hc))
    have hq : decide (most < t) = true := decide_eq_true (by omega)
    clear hc HF
    go_enter Tryz.func66, Tryz.ntmps66
    go_wp2_with fail
    go_quiet (fail)
    go_wp2_with fail
    go_ret2
    exact ⟨ret_val (by rw [HF2.out]; rfl), below_drewN (Below.refl _ _) _⟩
end Go.Proofs.YtjbdmlpadoiicaaGreatDoor
