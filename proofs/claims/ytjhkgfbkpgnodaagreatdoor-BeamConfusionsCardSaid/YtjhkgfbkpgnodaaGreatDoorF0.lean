/- All that flashes can become, in the order in which they are told, in plain words. -/
import Derived.Test.YtjhkgfbkpgnodaaGreatDoorD2
import Derived.Test.YtjhkgfbkpgnodaaGreatDoorB3
namespace Go.Proofs.YtjhkgfbkpgnodaaGreatDoor
open Go.RowKit Go.Shelf

/-- Whether the flash is no repetition of the one before it, as far as the place where the walk began. -/
def firstB (s : List UInt8) (frm k : Nat) : Bool := decide (k = frm) || (s.getD k 0 != s.getD (k - 1) 0)
def swapB (s : List UInt8) (k : Nat) : Bool := decide (k + 1 < s.length) && (s.getD k 0 != s.getD (k + 1) 0)
/-- The flashes from one place up to another. -/
def cutL (s : List UInt8) (a b : Nat) : List UInt8 := (s.drop a).take (b - a)
def walkL (s : List UInt8) : Nat → Nat → List UInt8 → List (List UInt8)
  | 0, frm, done => [done ++ s.drop frm]
  | left + 1, frm, done => (done ++ s.drop frm) :: (List.range (s.length - frm)).flatMap fun d =>
      (if firstB s frm (frm + d) then walkL s left (frm + d + 1) (done ++ cutL s frm (frm + d)) ++ walkL s left (frm + d + 1) (done ++ cutL s frm (frm + d) ++ cutL s (frm + d) (frm + d + 1) ++ cutL s (frm + d) (frm + d + 1)) else [])
      ++ (if swapB s (frm + d) then walkL s left (frm + d + 2) (done ++ cutL s frm (frm + d) ++ cutL s (frm + d + 1) (frm + d + 2) ++ cutL s (frm + d) (frm + d + 1)) else [])
example : walkL [46, 45] 1 0 [] = [[46, 45], [45], [46, 46, 45], [45, 46], [46], [46, 45, 45]] := by decide
/-- What one place adds. -/
def stepL (s : List UInt8) (left frm k : Nat) (done : List UInt8) : List (List UInt8) :=
  (if firstB s frm k then walkL s left (k + 1) (done ++ cutL s frm k) ++ walkL s left (k + 1) (done ++ cutL s frm k ++ cutL s k (k + 1) ++ cutL s k (k + 1)) else [])
  ++ (if swapB s k then walkL s left (k + 2) (done ++ cutL s frm k ++ cutL s (k + 1) (k + 2) ++ cutL s k (k + 1)) else [])
/-- What the places from one on up to another add. -/
def stepsL (s : List UInt8) (left frm : Nat) (done : List UInt8) (m : Nat) : List (List UInt8) := (List.range m).flatMap fun d => stepL s left frm (frm + d) done
theorem stepsL_succ (s : List UInt8) (left frm : Nat) (done : List UInt8) (m : Nat) : stepsL s left frm done (m + 1) = stepsL s left frm done m ++ stepL s left frm (frm + m) done := by simp [stepsL, List.range_succ]
theorem walkL_zero (s : List UInt8) (frm : Nat) (done : List UInt8) : walkL s 0 frm done = [done ++ s.drop frm] := rfl
theorem walkL_succ (s : List UInt8) (left frm : Nat) (done : List UInt8) : walkL s (left + 1) frm done = (done ++ s.drop frm) :: stepsL s left frm done (s.length - frm) := by
  unfold stepsL stepL; rw [walkL]
def outL (s : List UInt8) (faults : Nat) : List (List UInt8) := walkL s faults 0 []

/-- No string grows beyond twice its length. -/
theorem cutL_length (s : List UInt8) (a b : Nat) : (cutL s a b).length ≤ b - a := by simp [cutL]; omega
theorem cutL_extract (s : List UInt8) (a b : Nat) (h : a ≤ b) : (B s).extract a b = B (cutL s a b) := by
  apply ext_L
  rw [L_B, ByteArray.data_extract, Array.toList_extract, L_B, List.extract]; rfl
theorem drop_extract (s : List UInt8) (a : Nat) : (B s).extract a s.length = B (s.drop a) := by
  apply ext_L
  rw [L_B, ByteArray.data_extract, Array.toList_extract, L_B, List.extract, List.take_of_length_le (by simp)]
end Go.Proofs.YtjhkgfbkpgnodaaGreatDoor
