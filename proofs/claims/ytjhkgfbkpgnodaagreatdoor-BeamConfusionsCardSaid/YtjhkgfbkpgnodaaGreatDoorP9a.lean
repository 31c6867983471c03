/- The reference's kind and touched, plain. -/
import Derived.Test.YtjhkgfbkpgnodaaGreatDoorC1
namespace Go.Proofs.YtjhkgfbkpgnodaaGreatDoor
open Go.RowKit Go.Shelf

/-- The kind of the first fault that begins at a flash. -/
def kindR (l : List Flt) (p : Int) : Int := ((l.find? (fun f => decide (f.2 = p))).getD (0, 0)).1
theorem find_take {α : Type} (q : α → Bool) : ∀ (l : List α) (k : Nat), k < l.length → (∀ j (h : j < l.length), j < k → q l[j] = false) → (h : k < l.length) → q l[k] = true → l.find? q = some l[k]
  | f :: l, 0, _, _, _, h => by simp at h; simp [h]
  | f :: l, k + 1, hk, hn, h, hq => by
    have h0 := hn 0 (by simp) (by omega)
    simp at h0 hq
    have := find_take q l k (by simpa using hk) (fun j hj hjk => by have := hn (j + 1) (by simpa using hj) (by omega); simpa using this) (by simpa using hk) hq
    simp [h0, this]
/-- In how many faults a flash is. -/
def touchR (l : List Flt) (p : Int) : Nat := l.countP (covers p)
theorem count_take (q : Flt → Bool) (l : List Flt) (k : Nat) (h : k < l.length) : (l.take (k + 1)).countP q = (l.take k).countP q + (if q l[k] then 1 else 0) := by
  rw [List.take_succ_eq_append_getElem h, List.countP_append]; simp [List.countP_cons]
end Go.Proofs.YtjhkgfbkpgnodaaGreatDoor
