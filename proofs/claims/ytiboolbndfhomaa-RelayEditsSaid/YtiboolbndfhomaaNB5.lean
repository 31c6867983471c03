/- slices.Reverse of hops. -/
import Derived.Test.YtiboolbndfhomaaNB4
import Derived.RegionTactic
import Derived.BigRegion
import Derived.Deep.RegionLaw
set_option linter.unusedVariables false
set_option linter.unusedSimpArgs false
namespace Go.Proofs.Ytiboolbndfhomaa
open Go.RowKit

/-- The cells of a row of hops. -/
def FCells (C : Array Value) (n : Nat) (M : Nat → Sp) : Prop := ∀ p : Nat, p < n → C[p * 2]? = some (.int .i64 (M p).1) ∧ C[p * 2 + 1]? = some (.int .i64 (M p).2)
theorem FCells.swap {C : Array Value} {n : Nat} {M M' : Nat → Sp} {i j : Nat} {a b c d : Int} (h : FCells C n M) (hij : i < j) (hj : j < n) (e1 : M' i = (c, d)) (e2 : M' j = (a, b)) (e3 : ∀ p, p ≠ i → p ≠ j → M' p = M p) :
    FCells ((((C.setIfInBounds (i * 2) (.int .i64 c)).setIfInBounds (i * 2 + 1) (.int .i64 d)).setIfInBounds (j * 2) (.int .i64 a)).setIfInBounds (j * 2 + 1) (.int .i64 b)) n M' := by
  intro p hp
  have hs : ∀ q : Nat, q < n → q * 2 + 1 < C.size := fun q hq => (Array.getElem?_eq_some_iff.1 (h q hq).2).1
  have s1 := hs i (by omega)
  have s2 := hs j hj
  by_cases c1 : p = i
  · subst c1
    rw [e1]
    constructor
    · rw [Array.getElem?_setIfInBounds_ne (by omega), Array.getElem?_setIfInBounds_ne (by omega), Array.getElem?_setIfInBounds_ne (by omega), Array.getElem?_setIfInBounds_self_of_lt (by omega)]
    · rw [Array.getElem?_setIfInBounds_ne (by omega), Array.getElem?_setIfInBounds_ne (by omega), Array.getElem?_setIfInBounds_self_of_lt (by simp; omega)]
  · by_cases c2 : p = j
    · subst c2
      rw [e2]
      constructor
      · rw [Array.getElem?_setIfInBounds_ne (by omega), Array.getElem?_setIfInBounds_self_of_lt (by simp; omega)]
      · rw [Array.getElem?_setIfInBounds_self_of_lt (by simp; omega)]
    · rw [e3 p c1 c2]
      constructor
      · rw [Array.getElem?_setIfInBounds_ne (by omega), Array.getElem?_setIfInBounds_ne (by omega), Array.getElem?_setIfInBounds_ne (by omega), Array.getElem?_setIfInBounds_ne (by omega)]; exact (h p hp).1
      · rw [Array.getElem?_setIfInBounds_ne (by omega), Array.getElem?_setIfInBounds_ne (by omega), Array.getElem?_setIfInBounds_ne (by omega), Array.getElem?_setIfInBounds_ne (by omega)]; exact (h p hp).2
def revM (l : List Sp) (k p : Nat) : Sp := if p < k ∨ l.length ≤ p + k then l.getD (l.length - 1 - p) (0, 0) else l.getD p (0, 0)
theorem FCells.congr {C : Array Value} {n : Nat} {M M' : Nat → Sp} (h : FCells C n M) (e : ∀ p, p < n → M p = M' p) : FCells C n M' := fun p hp => by rw [← e p hp]; exact h p hp

theorem reverse_none (a : Option Addr) (cap : Nat) (w : World) : Calls Try.prog 44 #[.slice a 0 cap] w fun e w' => e = .returned (.tuple #[]) ∧ w = w' := by
  go_enter Try.func44, Try.ntmps44
  go_wp2_with fail
  go_loop [2, 3] (fun i j => i = .int .i64 0 ∧ j = .int .i64 (-1)) (fun _ _ => 0)
  case atStart => exact ⟨rfl, rfl⟩
  case round =>
    obtain ⟨rfl, rfl⟩ := hrel
    go_wp2_with fail
    go_end0
    exact ⟨rfl, rfl⟩

def RevPost (w : World) (g : Nat) (l : List Sp) (e : Ending) (w' : World) : Prop :=
  e = .returned (.tuple #[]) ∧ (∃ C', w'.heap[g]? = some (.cells C' 73 (0, 0)) ∧ FCells C' l.length (fun p => l.getD (l.length - 1 - p) (0, 0))) ∧ (∀ n, n ≤ g → Below n w w')

set_option maxRecDepth 100000 in
set_option maxHeartbeats 2000000 in
theorem reverse_any (g cap : Nat) (l : List Sp) (w : World) (C : Array Value) (hb : w.heap[g]? = some (.cells C 73 (0, 0))) (hC : FCells C l.length (fun p => l.getD p (0, 0))) (hl : l.length ≤ 2000000) :
    Calls Try.prog 44 #[.slice (some ⟨g, 0, none⟩) l.length cap] w (RevPost w g l) := by
  go_enter Try.func44, Try.ntmps44
  go_wp2_with fail
  go_loopw [2, 3] (fun i j wr => ∃ (k : Nat) (J : Int), i = .int .i64 k ∧ j = .int .i64 J ∧ J = (l.length : Int) - 1 - k ∧ (k : Int) ≤ J + 2 ∧ (∃ C', Hid (wr.heap[g]? = some (.cells C' 73 (0, 0)) ∧ FCells C' l.length (revM l k))) ∧ Hid (∀ n, n ≤ g → Below n w wr)) (fun i j _ => (intOf j - intOf i + 1).toNat)
  case atStart =>
    refine ⟨0, _, rfl, rfl, by omega, by omega, ⟨C, Lib.hid ⟨hb, hC.congr (fun p hp => ?_)⟩⟩, Lib.hid (fun n _ => Below.refl _ _)⟩
    unfold revM; rw [if_neg (by omega)]
  case round =>
    obtain ⟨k, J, rfl, rfl, hJ, hkJ, ⟨D, hD⟩, hB⟩ := hrel
    by_cases hlt : (k : Int) < J
    · obtain ⟨j, rfl⟩ := Int.eq_ofNat_of_zero_le (show 0 ≤ J by omega)
      have hjl : j < l.length := by omega
      have hkj : k < j := by omega
      have hkl : (k : Int) < l.length := by omega
      have hjli : (j : Int) < l.length := by omega
      obtain ⟨a1, a2⟩ := hD.out.2 k (by omega)
      obtain ⟨b1, b2⟩ := hD.out.2 j hjl
      obtain ⟨a, ea⟩ : ∃ a, (revM l k k).1 = a := ⟨_, rfl⟩
      obtain ⟨b, eb⟩ : ∃ b, (revM l k k).2 = b := ⟨_, rfl⟩
      obtain ⟨c, ec⟩ : ∃ c, (revM l k j).1 = c := ⟨_, rfl⟩
      obtain ⟨d, ed⟩ : ∃ d, (revM l k j).2 = d := ⟨_, rfl⟩
      rw [ea] at a1; rw [eb] at a2; rw [ec] at b1; rw [ed] at b2
      have q0 : wr.cell? ⟨g, k * 2, none⟩ = some (.int .i64 a) := by rw [cellH hD.out.1]; exact a1
      have q1 : wr.cell? ⟨g, k * 2 + 1, none⟩ = some (.int .i64 b) := by rw [cellH hD.out.1]; exact a2
      have r0 : wr.cell? ⟨g, j * 2, none⟩ = some (.int .i64 c) := by rw [cellH hD.out.1]; exact b1
      have r1 : wr.cell? ⟨g, j * 2 + 1, none⟩ = some (.int .i64 d) := by rw [cellH hD.out.1]; exact b2
      have f0 := freeH hD.out.1 (k * 2)
      have f1 := freeH hD.out.1 (k * 2 + 1)
      have g0 := freeH hD.out.1 (j * 2)
      have g1 := freeH hD.out.1 (j * 2 + 1)
      have n1 : ¬ k * 2 = j * 2 := by omega
      have n2 : ¬ j * 2 = k * 2 := by omega
      have n3 : ¬ k * 2 + 1 = j * 2 := by omega
      have n4 : ¬ j * 2 = k * 2 + 1 := by omega
      have n5 : ¬ k * 2 = j * 2 + 1 := by omega
      have n6 : ¬ j * 2 + 1 = k * 2 := by omega
      have n7 : ¬ k = j := by omega
      have n8 : ¬ j = k := by omega
      have HJ := Lib.hid hJ
      have hMi : revM l (k + 1) k = (c, d) := by
        have e : revM l (k + 1) k = revM l k j := by
          unfold revM; rw [if_pos (by omega), if_neg (by omega), show l.length - 1 - k = j by omega]
        rw [e]; exact Prod.ext ec ed
      have hMj : revM l (k + 1) j = (a, b) := by
        have e : revM l (k + 1) j = revM l k k := by
          unfold revM; rw [if_pos (by omega), if_neg (by omega), show l.length - 1 - j = k by omega]
        rw [e]; exact Prod.ext ea eb
      have hMo : ∀ p, p ≠ k → p ≠ j → revM l (k + 1) p = revM l k p := fun p h1 h2 => by
        unfold revM
        by_cases c : p < k ∨ l.length ≤ p + k
        · rw [if_pos c, if_pos (by omega)]
        · rw [if_neg c, if_neg (by omega)]
      have HSW := Lib.hid (hD.out.2.swap hkj hjl hMi hMj hMo)
      clear a1 a2 b1 b2 ea eb ec ed hJ hMi hMj hMo
      go_wp2_with fail
      go_region
      all_goals
        go_wp2_with fail
        go_roundw
        case rel =>
          refine ⟨k + 1, (j : Int) - 1, by go_num, rfl, by have := HJ.out; omega, by omega, ⟨_, Lib.hid ⟨heap_same (heap_same (heap_same (heap_same hD.out.1 (k * 2) _) (k * 2 + 1) _) (j * 2) _) (j * 2 + 1) _, HSW.out⟩⟩, Lib.hid (fun n hn => ?_)⟩
          have := hB.out n hn
          exact ((((this.setCell (p := ⟨g, k * 2, none⟩) hn _).setCell (p := ⟨g, k * 2 + 1, none⟩) hn _).setCell (p := ⟨g, j * 2, none⟩) hn _).setCell (p := ⟨g, j * 2 + 1, none⟩) hn _).drew
        case measure => simp [intOf]; omega
    · have HF := Lib.hid (hD.out.2.congr (M' := fun p => l.getD (l.length - 1 - p) (0, 0)) (fun p hp => by
        unfold revM
        by_cases c : p < k ∨ l.length ≤ p + k
        · rw [if_pos c]
        · rw [if_neg c, show l.length - 1 - p = p by omega]))
      go_wp2_with fail
      go_end0
      exact ⟨rfl, ⟨D, hD.out.1, HF.out⟩, hB.out⟩
end Go.Proofs.Ytiboolbndfhomaa
