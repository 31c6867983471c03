/- least and spread of package relay. -/
import Derived.Test.YtiboolbndfhomaaNA7
import Derived.BigRegion
import Derived.OwnWalk
import Derived.Laws.MakeOwn
set_option linter.unusedVariables false
set_option linter.unusedSimpArgs false
namespace Go.Proofs.Ytiboolbndfhomaa
open Go.RowKit

theorem least_any (w : World) : Calls Try.prog 51 #[] w fun e w' => e = .returned (.func (.func 54) #[] #[.pointer (some ⟨w.heap.size + 1, 0, none⟩), .pointer (some ⟨w.heap.size, 0, none⟩)]) ∧
    w' = (w.alloc (.cells #[.int .i64 0] 3)).alloc (.cells #[.bool false] 4) := by
  go_enter Try.func51, Try.ntmps51
  go_wp2_with fail
  go_ret
  exact ⟨rfl, rfl⟩

set_option maxRecDepth 100000 in
theorem least1_no (m x : Int) (p q : Nat) (w : World) (hx : x ≤ m) (hp : w.cell? ⟨p, 0, none⟩ = some (.int .i64 x)) (hq : w.cell? ⟨q, 0, none⟩ = some (.bool true)) :
    Calls Try.prog 54 #[.int .i64 m, .pointer (some ⟨q, 0, none⟩), .pointer (some ⟨p, 0, none⟩)] w fun e w' => e = .returned (.bool false) ∧ w = w' := by
  go_enter Try.func54, Try.ntmps54
  go_wp2_with fail
  go_ret
  exact ⟨rfl, rfl⟩
set_option maxRecDepth 100000 in
theorem least1_yes (m x : Int) (b : Bool) (p q : Nat) (w : World) (hx : b = true → m < x) (hp : w.cell? ⟨p, 0, none⟩ = some (.int .i64 x)) (hq : w.cell? ⟨q, 0, none⟩ = some (.bool b)) (fp : w.frozen? ⟨p, 0, none⟩ = false) (fq : w.frozen? ⟨q, 0, none⟩ = false) (hpq : p ≠ q) :
    Calls Try.prog 54 #[.int .i64 m, .pointer (some ⟨q, 0, none⟩), .pointer (some ⟨p, 0, none⟩)] w fun e w' => e = .returned (.bool true) ∧ (w.setCell ⟨p, 0, none⟩ (.int .i64 m)).setCell ⟨q, 0, none⟩ (.bool true) = w' := by
  cases b with
  | false =>
    clear hx
    go_enter Try.func54, Try.ntmps54
    go_wp2_with fail
    go_ret
    exact ⟨rfl, rfl⟩
  | true =>
    have g : decide (x ≤ m) = false := decide_eq_false (by have := hx rfl; omega)
    clear hx
    go_enter Try.func54, Try.ntmps54
    go_wp2_with fail
    go_ret
    exact ⟨rfl, rfl⟩
def intsA (l : List Int) : Array Value := (l.map (Value.int .i64 ·)).toArray
def hopsL (l : List Sp) : List Value := l.flatMap fun h => [.int .i64 h.1, .int .i64 h.2]
def hopsA (l : List Sp) : Array Value := (hopsL l).toArray
/-- The function that least returns, with its variables from p on. -/
def fnV : Option Nat → Value
  | none => .nilFunc
  | some p => .func (.func 54) #[] #[.pointer (some ⟨p + 1, 0, none⟩), .pointer (some ⟨p, 0, none⟩)]
def fnsA (l : List (Option Nat)) : Array Value := (l.map fnV).toArray
theorem upto10 {P : Nat → Prop} (h : P 0 ∧ P 1 ∧ P 2 ∧ P 3 ∧ P 4 ∧ P 5 ∧ P 6 ∧ P 7 ∧ P 8 ∧ P 9 ∧ P 10) : ∀ n, n ≤ 10 → P n := by
  intro n hn
  obtain ⟨h0, h1, h2, h3, h4, h5, h6, h7, h8, h9, h10⟩ := h
  rcases (by omega : n = 0 ∨ n = 1 ∨ n = 2 ∨ n = 3 ∨ n = 4 ∨ n = 5 ∨ n = 6 ∨ n = 7 ∨ n = 8 ∨ n = 9 ∨ n = 10) with rfl | rfl | rfl | rfl | rfl | rfl | rfl | rfl | rfl | rfl | rfl <;> assumption
theorem made_ints : ∀ n, n ≤ 10 → madeCells (Value.int .i64 0).cells (n * 1) = intsA (List.replicate n 0) := upto10 ⟨by kernel_rfl, by kernel_rfl, by kernel_rfl, by kernel_rfl, by kernel_rfl, by kernel_rfl, by kernel_rfl, by kernel_rfl, by kernel_rfl, by kernel_rfl, by kernel_rfl⟩
theorem made_hops : ∀ n, n ≤ 10 → madeCells (Value.agg #[.int .i64 0, .int .i64 0]).cells (n * 2) = hopsA (List.replicate n (0, 0)) := upto10 ⟨by kernel_rfl, by kernel_rfl, by kernel_rfl, by kernel_rfl, by kernel_rfl, by kernel_rfl, by kernel_rfl, by kernel_rfl, by kernel_rfl, by kernel_rfl, by kernel_rfl⟩
theorem made_fns : ∀ n, n ≤ 10 → madeCells Value.nilFunc.cells (n * 1) = fnsA (List.replicate n none) := upto10 ⟨by kernel_rfl, by kernel_rfl, by kernel_rfl, by kernel_rfl, by kernel_rfl, by kernel_rfl, by kernel_rfl, by kernel_rfl, by kernel_rfl, by kernel_rfl, by kernel_rfl⟩
theorem info_i : (Try.prog.info? 3).map (fun i => (i.zero, i.size, i.bytes)) = some (some (.int .i64 0), 1, 8) := by kernel_rfl
theorem info_h : (Try.prog.info? 73).map (fun i => (i.zero, i.size, i.bytes)) = some (some (.agg #[.int .i64 0, .int .i64 0]), 2, 16) := by kernel_rfl
theorem info_f : (Try.prog.info? 82).map (fun i => (i.zero, i.size, i.bytes)) = some (some .nilFunc, 1, 8) := by kernel_rfl
theorem mk_ints (n : Nat) (hn : n ≤ 10) (W : World) : (Instr.makeSlice 35 (.int .i64 n) (.int .i64 n)).run Try.prog W = .ok (.slice (some ⟨W.heap.size, 0, none⟩) n n) (W.alloc (.cells (intsA (List.replicate n 0)) 3)) := by
  obtain ⟨i, h1, h2, h3, h4⟩ := info_parts info_i
  have := run_make W 35 3 i (.int .i64 0) Try.underlying35 h1 h2 .i64 .i64 n n (by omega) (by omega) (by rw [h4]; omega) (by omega)
  rw [this, h3]; simp only [Int.toNat_natCast]; rw [made_ints n hn]
theorem mk_hops (n : Nat) (hn : n ≤ 10) (W : World) : (Instr.makeSlice 43 (.int .i64 n) (.int .i64 n)).run Try.prog W = .ok (.slice (some ⟨W.heap.size, 0, none⟩) n n) (W.alloc (.cells (hopsA (List.replicate n (0, 0))) 73)) := by
  obtain ⟨i, h1, h2, h3, h4⟩ := info_parts info_h
  have := run_make W 43 73 i (.agg #[.int .i64 0, .int .i64 0]) Try.underlying43 h1 h2 .i64 .i64 n n (by omega) (by omega) (by rw [h4]; omega) (by omega)
  rw [this, h3]; simp only [Int.toNat_natCast]; rw [made_hops n hn]
theorem mk_fns (n : Nat) (hn : n ≤ 10) (W : World) : (Instr.makeSlice 81 (.int .i64 n) (.int .i64 n)).run Try.prog W = .ok (.slice (some ⟨W.heap.size, 0, none⟩) n n) (W.alloc (.cells (fnsA (List.replicate n none)) 82)) := by
  obtain ⟨i, h1, h2, h3, h4⟩ := info_parts info_f
  have := run_make W 81 82 i .nilFunc Try.underlying81 h1 h2 .i64 .i64 n n (by omega) (by omega) (by rw [h4]; omega) (by omega)
  rw [this, h3]; simp only [Int.toNat_natCast]; rw [made_fns n hn]

end Go.Proofs.Ytiboolbndfhomaa
