/- Slices of strings that read as lists. -/
import Derived.Test.YtjbdmlpadoiicaaGreatDoorM0
import Derived.Test.YtjbdmlpadoiicaaGreatDoorF0
import Derived.Test.YtjbdmlpadoiicaaGreatDoorC1
set_option linter.unusedVariables false
set_option linter.unusedSimpArgs false
namespace Go.Proofs.YtjbdmlpadoiicaaGreatDoor
open Go.RowKit

/-- A slice of strings that reads as a list. -/
def SRow (w : World) (v : Value) (l : List (List UInt8)) : Prop :=
  (∃ a cap, v = .slice a 0 cap ∧ l = []) ∨
  ∃ b off cap, v = .slice (some ⟨b, off, none⟩) l.length cap ∧ b < w.heap.size ∧ ∀ i, i < l.length → w.cell? ⟨b, off + i, none⟩ = some (.string (B (l.getD i [])))
theorem SRow.form {w : World} {v : Value} {l : List (List UInt8)} (h : SRow w v l) : ∃ a cap, v = .slice a l.length cap ∧ ∀ k, k < l.length → ∃ b off, a = some ⟨b, off, none⟩ ∧ b < w.heap.size ∧ w.cell? ⟨b, off + k, none⟩ = some (.string (B (l.getD k []))) := by
  rcases h with ⟨a, cap, rfl, rfl⟩ | ⟨b, off, cap, rfl, hb, hc⟩
  · exact ⟨a, cap, rfl, fun k hk => by simp at hk⟩
  · exact ⟨_, cap, rfl, fun k hk => ⟨b, off, rfl, hb, hc k hk⟩⟩
theorem SRow.keep {w w' : World} {v : Value} {l : List (List UInt8)} (h : SRow w v l) (hb : Below w.heap.size w w') : SRow w' v l := by
  rcases h with h | ⟨b, off, cap, hv, hlt, hc⟩
  · exact .inl h
  · exact .inr ⟨b, off, cap, hv, Nat.lt_of_lt_of_le hlt hb.size, fun i hi => (hb.cell (p := ⟨b, _, none⟩) hlt).trans (hc i hi)⟩
theorem SRow.nil (w : World) : SRow w (.slice none 0 0) [] := .inl ⟨_, _, rfl, rfl⟩
/-- A row that the call owns reads as its list. -/
theorem SRow.of_owned {w : World} {base : Nat} {e : TypeId} {v : Value} {l : List (List UInt8)} (h : w.ownsRow base e 1 v l.length (l.map fun s => Value.string (B s))) : SRow w v l := by
  rcases h.2 with ⟨rfl, hn⟩ | ⟨g, cap, cur, rfl, hg, hb, _⟩
  · have : l = [] := by
      have := h.1
      cases l with
      | nil => rfl
      | cons a l => simp at hn
    subst this; exact .inl ⟨_, _, rfl, rfl⟩
  · refine .inr ⟨g, 0, cap, rfl, (Array.getElem?_eq_some_iff.1 hb).1, fun i hi => ?_⟩
    have := h.cellAt i (by simpa using hi)
    rw [List.getD_eq_getElem?_getD, List.getElem?_eq_getElem hi]
    simpa [List.getElem?_eq_getElem hi] using this
end Go.Proofs.YtjbdmlpadoiicaaGreatDoor

/-! Small laws on strings and cells. -/
namespace Go.Proofs.YtjbdmlpadoiicaaGreatDoor
open Go.RowKit Go.Shelf

def encS (x : List UInt8) : Value := .string (B x)
theorem info_strS : (Tryz.prog.info? 9).map (fun i => (i.zero, i.size, i.bytes)) = some (some (.string ⟨#[]⟩), 1, 16) := by kernel_rfl
theorem cell_one_newS (W : World) (v : Value) (t : TypeId) : ∀ j u, [v][j]? = some u → (W.alloc (.cells #[v] t)).cell? ((⟨W.heap.size, 0, none⟩ : Addr).add j) = some u := fun j u h => by
  have hj : j = 0 := by
    rcases Nat.eq_zero_or_pos j with h0 | h0
    · exact h0
    · rw [List.getElem?_eq_none (by simp; omega)] at h; cases h
  subst hj
  simp at h
  subst h
  show (W.alloc (.cells #[v] t)).cell? ⟨W.heap.size, 0, none⟩ = _
  rw [World.cell?_alloc_new]; rfl

theorem head_run (W : World) (R : List UInt8) (k : Nat) (hk : k ≤ R.length) (y : Int) (hy : y = k) : (Instr.slice 9 (.string (B R)) none (some (.int .i64 y)) none).run Tryz.prog W = .ok (.string (B (R.take k))) W := by
  rw [run_slice_string_h _ _ _ Tryz.underlying9 _ _ (by omega) (by rw [size_B]; omega)]
  have : (B R).extract 0 y.toNat = B (R.take k) := by
    rw [show y.toNat = k by omega, cutL_extract R 0 k (by omega)]; unfold cutL; simp
  rw [this]
theorem tail_run (W : World) (R : List UInt8) (k : Nat) (hk : k ≤ R.length) (y : Int) (hy : y = k) : (Instr.slice 9 (.string (B R)) (some (.int .i64 y)) none none).run Tryz.prog W = .ok (.string (B (R.drop k))) W := by
  rw [run_slice_string_l _ _ _ Tryz.underlying9 _ _ (by omega) (by rw [size_B]; omega)]
  have : (B R).extract y.toNat (B R).size = B (R.drop k) := by
    rw [show y.toNat = k by omega, size_B, drop_extract]
  rw [this]

theorem sidx_run (s : List UInt8) (k : Nat) (hk : k < s.length) (y : Int) (hy : y = k) (W : World) : (Instr.index 9 (.string (B s)) (.int .i64 y)).run Tryz.prog W = .ok (.int .u8 (s.getD k 0).toNat) W := by
  subst hy
  rw [run_index_string _ _ _ _ _ Tryz.underlying9, dif_pos ⟨by omega, by rw [size_B]; omega⟩]
  have : (B s)[(k : Int).toNat]'(by rw [size_B]; omega) = s.getD k 0 := by rw [bat_eq _ _ (by rw [size_B]; omega), bat_B]; rfl
  rw [this]
theorem u8_47 {b : UInt8} (h : ¬ b = 47) : ((b.toNat : Int) == 47) = false := by
  rw [beq_eq_false_iff_ne]; intro e; exact h (UInt8.toNat_inj.1 (by have h9 : (47 : UInt8).toNat = 47 := rfl; omega))
theorem drop_getD (s : List UInt8) (f j : Nat) : (s.drop f).getD j 0 = s.getD (f + j) 0 := by
  rw [List.getD_eq_getElem?_getD, List.getD_eq_getElem?_getD, List.getElem?_drop]
/-- What the round does to the place of the next end. -/
theorem SRow.setCell {w : World} {base : Nat} {e : TypeId} {v : Value} {l : List (List UInt8)} (h : w.ownsRow base e 1 v l.length (l.map encS)) {a : Addr} (ha : a.block < base) (u : Value) : (w.setCell a u).ownsRow base e 1 v l.length (l.map encS) := ownsRow_setCell_below h ha u

theorem heap_alloc_old' (w : World) (o : Obj) (k : Nat) (h : k < w.heap.size) : (w.alloc o).heap[k]? = w.heap[k]? := Below.heap_alloc w o k h
end Go.Proofs.YtjbdmlpadoiicaaGreatDoor
