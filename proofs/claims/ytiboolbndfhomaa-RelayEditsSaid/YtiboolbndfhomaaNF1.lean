/- Closed of package relay: plain words; parts; rows that stay when only other blocks change. -/
import Derived.Test.YtiboolbndfhomaaNC5
import Derived.Test.YtiboolbndfhomaaNA9
import Derived.Test.YtiboolbndfhomaaND4
import Derived.WalkMore
import Derived.Scope
set_option linter.unusedVariables false
set_option linter.unusedSimpArgs false
namespace Go.Proofs.Ytiboolbndfhomaa
open Go.RowKit

def closeK (c : Sp) (k : Lk) : Lk := ⟨k.fr, k.to, k.dl, partsL k.op c⟩
def closeL (ls : List Lk) (c : Sp) : List Lk := ls.map (closeK c)
def wideB (c : Sp) (k : Lk) : Bool := decide (12 < (partsL k.op c).length)
/-- The error of Closed. -/
def closedE (st : Int) (ls : List Lk) (c : Sp) : Int := if netE st ls = 0 then (if c.2 < c.1 then 1 else if ls.any (wideB c) = true then 2 else 0) else netE st ls
theorem partS_len (c s : Sp) : (partS c s).length ≤ 2 := by
  unfold partS
  split <;> split <;> simp
theorem partsL_len (c : Sp) : ∀ l : List Sp, (partsL l c).length ≤ 2 * l.length
  | [] => by simp [partsL]
  | s :: l => by
    have h1 := partS_len c s
    have h2 := partsL_len c l
    unfold partsL at h2 ⊢
    rw [List.flatMap_cons, List.length_append, List.length_cons]
    omega
theorem closeL_len (ls : List Lk) (c : Sp) : (closeL ls c).length = ls.length := by simp [closeL]
theorem closeL_at {ls : List Lk} {c : Sp} {i : Nat} (h : i < ls.length) : (closeL ls c).getD i .nil = closeK c (ls.getD i .nil) := by
  unfold closeL
  rw [List.getD_eq_getElem?_getD, List.getD_eq_getElem?_getD, List.getElem?_map, List.getElem?_eq_getElem h]; rfl

theorem parts_any (sa : Option Addr) (sn sc : Nat) (a b : Int) (w : World) : Calls Try.prog 49 #[.slice sa sn sc, .agg #[.int .i64 a, .int .i64 b]] w fun e w' =>
    e = .returned (.func (.func 53) #[] #[.pointer (some ⟨w.heap.size, 0, none⟩), .pointer (some ⟨w.heap.size + 1, 0, none⟩)]) ∧ w' = (w.alloc (.cells #[.slice sa sn sc] 25)).alloc (.cells #[.int .i64 a, .int .i64 b] 52) := by
  go_enter Try.func49, Try.ntmps49
  go_wp2_with fail
  go_ret
  exact ⟨rfl, rfl⟩
/-- All blocks of cells lie as they lay. -/
def KC5 (A B : World) : Prop := A.heap.size ≤ B.heap.size ∧ ∀ (b : Nat) (C : Array Value) (t : TypeId) (fr : Nat × Nat), A.heap[b]? = some (Obj.cells C t fr) → B.heap[b]? = some (Obj.cells C t fr)
theorem KC5.refl (A : World) : KC5 A A := ⟨Nat.le_refl _, fun _ _ _ _ h => h⟩
theorem KC5.trans {A B C : World} (h : KC5 A B) (k : KC5 B C) : KC5 A C := ⟨Nat.le_trans h.1 k.1, fun b C' t fr hb => k.2 b C' t fr (h.2 b C' t fr hb)⟩
theorem KC5.cell {A B : World} (h : KC5 A B) {p : Addr} {v : Value} (hp : A.cell? p = some v) : B.cell? p = some v := by
  unfold World.cell? at hp ⊢
  split at hp
  · rename_i C t fr hb
    rw [h.2 _ _ _ _ hb]; exact hp
  · cases hp
theorem KC5.of_below {A B : World} (h : Below A.heap.size A B) : KC5 A B := ⟨h.size, fun b C t fr hb => (h.block b (Array.getElem?_eq_some_iff.1 hb).1).trans hb⟩
theorem SpRow.kc5 {A B : World} {v : Value} {l : List Sp} (h : SpRow A v l) (k : KC5 A B) : SpRow B v l := by
  rcases h with h | ⟨b, off, cap, rfl, h1, hc⟩
  · exact .inl h
  · exact .inr ⟨b, off, cap, rfl, Nat.lt_of_lt_of_le h1 k.1, fun i hi => ⟨k.cell (hc i hi).1, k.cell (hc i hi).2⟩⟩
theorem LRow.kc5 {A B : World} {v : Value} {l : List Lk} (h : LRow A v l) (k : KC5 A B) : LRow B v l := by
  rcases h with h | ⟨b, off, cap, rfl, h1, hc⟩
  · exact .inl h
  · refine .inr ⟨b, off, cap, rfl, Nat.lt_of_lt_of_le h1 k.1, fun i hi => ?_⟩
    obtain ⟨c0, c1, c2, o, c3, hs⟩ := hc i hi
    exact ⟨k.cell c0, k.cell c1, k.cell c2, o, k.cell c3, hs.kc5 k⟩
theorem leaves_marks5 {F : Fence} {n : Nat} {P : Program} {fn : Func} {tmps : Array Value} {R : Ending → World → Prop} (b0 : Nat) : ∀ (marks : List Nat) (W : World), marks.Nodup → (∀ D ∈ marks, b0 ≤ D ∧ W.heap[D]? = some (.deferred (some []))) →
    (∀ W', KC5 W W' → Below b0 W W' → LeavesIn F n P fn tmps R [] .returning W') → LeavesInM F n P fn tmps R (marks.map fun D => { target := .collected D, args := #[] }) .returning W
  | [], W, _, _, h => h W (KC5.refl _) (Below.refl _ _)
  | D :: marks, W, hnd, hm, h => by
    obtain ⟨h1, h2⟩ := hm D (by simp)
    refine ⟨by simp, .inl ⟨D, W.putObj D (.deferred none), rfl, run_takeDeferred h2, ?_⟩⟩
    refine leaves_marks5 b0 marks _ (List.nodup_cons.1 hnd).2 (fun D' hD' => ?_) (fun W' hk hb => h W' ?_ ?_)
    · have hne : D' ≠ D := fun e => (List.nodup_cons.1 hnd).1 (e ▸ hD')
      obtain ⟨g1, g2⟩ := hm D' (by simp [hD'])
      exact ⟨g1, (World.putObj_heap_other hne).trans g2⟩
    · refine KC5.trans ⟨by simp, fun b C t fr hb' => ?_⟩ hk
      refine (World.putObj_heap_other ?_).trans hb'
      rintro rfl
      rw [h2] at hb'; cases hb'
    · exact ((Below.refl b0 W).grown (grownBy_putObj' W D _) (by have := (Array.getElem?_eq_some_iff.1 h2).1; omega) (fun k e => by cases e; exact h1)).trans hb
theorem NRow.kc5 {A B : World} {v : Value} {l : List Lk} (h : NRow A v l) (k : KC5 A B) : NRow B v l := ⟨h.row.kc5 k, h.op, h.len⟩
end Go.Proofs.Ytiboolbndfhomaa
