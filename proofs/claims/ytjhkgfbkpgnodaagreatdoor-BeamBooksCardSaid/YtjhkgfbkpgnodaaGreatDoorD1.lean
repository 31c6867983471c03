/- newSheet of package beam. -/
import Derived.Test.YtjhkgfbkpgnodaaGreatDoorC2
namespace Go.Proofs.YtjhkgfbkpgnodaaGreatDoor
open Go.RowKit Go.Shelf

/-- The cells of a sheet whose first q numbers are 200, the others 0. -/
def Sh0 (C : Array Value) (r : ByteArray) (most : Int) (q : Nat) : Prop :=
  C.size = 10204 ∧ C[0]? = some (.string r) ∧ C[1]? = some (.int .i64 most) ∧ C[2]? = some (.slice none 0 0) ∧ ∀ x : Nat, x < 10201 → C[3 + x]? = some (.int .i16 (if x < q then 200 else 0))

theorem Sh0.step {C : Array Value} {r : ByteArray} {most : Int} {q : Nat} (h : Sh0 C r most q) (hq : q < 10201) : Sh0 (C.setIfInBounds (3 + q) (.int .i16 200)) r most (q + 1) := by
  obtain ⟨h0, h1, h2, h3, h4⟩ := h
  refine ⟨by simpa using h0, ?_, ?_, ?_, fun x hx => ?_⟩
  · rw [Array.getElem?_setIfInBounds_ne (by omega)]; exact h1
  · rw [Array.getElem?_setIfInBounds_ne (by omega)]; exact h2
  · rw [Array.getElem?_setIfInBounds_ne (by omega)]; exact h3
  · by_cases e : x = q
    · subst e; rw [Array.getElem?_setIfInBounds_self_of_lt (by omega), if_pos (by omega)]
    · rw [Array.getElem?_setIfInBounds_ne (by omega), h4 x hx]
      by_cases c : x < q
      · rw [if_pos c, if_pos (by omega)]
      · rw [if_neg c, if_neg (by omega)]

def isZ16 : Value → Bool
  | .int .i16 n => n == 0
  | _ => false
theorem isZ16_eq {v : Value} (h : isZ16 v = true) : v = .int .i16 0 := by
  unfold isZ16 at h
  split at h
  · rename_i n; rw [show n = 0 from by simpa using h]
  · cases h
theorem zeroSh_size : Tryz.zeroCells130.size = 10204 := Tryz.zeroCells130_size
theorem zeroSh_all : (Tryz.zeroCells130.toList.drop 3).all isZ16 = true := by kernel_rfl
theorem zeroSh_2 : (Tryz.zeroCells130.toList.drop 2).head? = some (.slice none 0 0) := by kernel_rfl
theorem zeroSh_get (x : Nat) {C : Array Value} (hl : 3 + x < C.size) : (C.toList.drop 3)[x]? = some (C[3 + x]) := by
  rw [List.getElem?_drop, Array.getElem?_toList, Array.getElem?_eq_getElem hl]
theorem zeroSh_any {C : Array Value} (hs : C.size = 10204) (ha : (C.toList.drop 3).all isZ16 = true) (x : Nat) (hx : x < 10201) : C[3 + x]? = some (.int .i16 0) := by
  have hl : 3 + x < C.size := by omega
  rw [Array.getElem?_eq_getElem hl]
  have := List.all_eq_true.1 ha (C[3 + x]'hl) (List.mem_iff_getElem?.2 ⟨x, zeroSh_get x hl⟩)
  rw [isZ16_eq this]
theorem zeroSh_at (x : Nat) (hx : x < 10201) : Tryz.zeroCells130[3 + x]? = some (.int .i16 0) := zeroSh_any zeroSh_size zeroSh_all x hx
theorem zeroSh_start (r : ByteArray) (most : Int) : Sh0 ((Tryz.zeroCells130.setIfInBounds 0 (.string r)).setIfInBounds 1 (.int .i64 most)) r most 0 := by
  have hs := zeroSh_size
  refine ⟨by simp, ?_, ?_, ?_, fun x hx => ?_⟩
  · rw [Array.getElem?_setIfInBounds_ne (by omega), Array.getElem?_setIfInBounds_self_of_lt (by omega)]
  · rw [Array.getElem?_setIfInBounds_self_of_lt (by simp)]
  · rw [Array.getElem?_setIfInBounds_ne (by omega), Array.getElem?_setIfInBounds_ne (by omega), ← Array.getElem?_toList, ← zeroSh_2, List.head?_drop]
  · rw [Array.getElem?_setIfInBounds_ne (by omega), Array.getElem?_setIfInBounds_ne (by omega), if_neg (by omega)]
    exact zeroSh_at x hx

set_option maxRecDepth 100000 in
set_option maxHeartbeats 1000000 in
theorem newSheet_any (r : ByteArray) (most : Int) (w : World) :
    Calls Tryz.prog 69 #[.string r, .int .i64 most] w fun e w' => e = .returned (.pointer (some ⟨w.heap.size, 0, none⟩)) ∧ Below w.heap.size w w' ∧
      ∃ C, w'.heap[w.heap.size]? = some (.cells C 130 (0, 0)) ∧ ∃ C', C = C'.setIfInBounds 3 (.int .i16 0) ∧ Sh0 C' r most 10201 := by
  go_enter Tryz.func69, Tryz.ntmps69
  go_wp2_with fail
  go_loopw [6, 7, 12, 15] (fun _ _ i _ wr => ∃ (k : Nat) (C : Array Value), k ≤ 101 ∧ i = .int .i64 k ∧ Hid (wr.heap[w.heap.size]? = some (.cells C 130 (0, 0))) ∧ Hid (Sh0 C r most (k * 101)) ∧ Below w.heap.size w wr) (fun _ _ i _ _ => 101 - (intOf i).toNat)
  case atStart => exact ⟨0, _, Nat.zero_le _, rfl, Lib.hid (heap_alloc_new w _), Lib.hid (zeroSh_start r most), (Below.refl _ w).alloc (Nat.le_refl _) _⟩
  case round =>
    obtain ⟨k, C, hk, rfl, hh, hS, hB⟩ := hrel
    by_cases hlt : k < 101
    · go_wp2_with fail
      go_loopw [7, 15] (fun _ j wj => ∃ (m : Nat) (C : Array Value), m ≤ 101 ∧ j = .int .i64 m ∧ Hid (wj.heap[w.heap.size]? = some (.cells C 130 (0, 0))) ∧ Hid (Sh0 C r most (k * 101 + m)) ∧ Below w.heap.size w wj) (fun _ j _ => 101 - (intOf j).toNat)
      case atStart => exact ⟨0, C, Nat.zero_le _, rfl, hh, hS, hB⟩
      case round =>
        clear hB hh hS
        obtain ⟨m, C, hm, rfl, hh, hS, hB⟩ := hrel
        by_cases hml : m < 101
        · obtain ⟨ov, hov⟩ : ∃ ov, C[3 + (k * 101 + m)]? = some (.int .i16 ov) := ⟨_, hS.out.2.2.2.2 (k * 101 + m) (by omega)⟩
          have c0 : wr.cell? ⟨w.heap.size, 3 + k * 101 + m, none⟩ = some (.int .i16 ov) := (cell_of_heap hh.out _).trans (by rw [Nat.add_assoc]; exact hov)
          have f0 : wr.frozen? ⟨w.heap.size, 3 + k * 101 + m, none⟩ = false := free_of_heap hh.out _
          clear hov
          go_wp2_with fail
          go_roundw
          case rel => exact ⟨m + 1, _, by omega, by go_num, Lib.hid (by rw [Nat.add_assoc]; exact heap_setCell_same hh.out _ _), Lib.hid (hS.out.step (by omega)), hB.setCell (p := ⟨w.heap.size, _, none⟩) (Nat.le_refl _) _⟩
          case measure => simp [intOf]; omega
        · obtain rfl : m = 101 := by omega
          go_wp2_with fail
          go_roundw
          case rel => exact ⟨k + 1, C, by omega, by go_num, hh, by rw [show (k + 1) * 101 = k * 101 + 101 from by omega]; exact hS, hB⟩
          case measure => simp [intOf]; omega
    · obtain rfl : k = 101 := by omega
      obtain ⟨ov, hov⟩ : ∃ ov, C[3]? = some (.int .i16 ov) := ⟨_, hS.out.2.2.2.2 0 (by omega)⟩
      have c0 : wr.cell? ⟨w.heap.size, 3, none⟩ = some (.int .i16 ov) := (cell_of_heap hh.out _).trans hov
      have f0 : wr.frozen? ⟨w.heap.size, 3, none⟩ = false := free_of_heap hh.out _
      clear hov
      go_wp2
      go_ret
      exact ⟨rfl, hB.setCell (p := ⟨w.heap.size, _, none⟩) (Nat.le_refl _) _, _, heap_setCell_same hh.out _ _, C, rfl, hS.out⟩
end Go.Proofs.YtjhkgfbkpgnodaaGreatDoor
