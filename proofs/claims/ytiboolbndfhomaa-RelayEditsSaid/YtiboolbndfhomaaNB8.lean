/- without of package relay. -/
import Derived.Test.YtiboolbndfhomaaNB7
import Derived.Shelf.Slices.Clone
set_option linter.unusedVariables false
set_option linter.unusedSimpArgs false
namespace Go.Proofs.Ytiboolbndfhomaa
open Go.RowKit

theorem info_l : (Try.prog.info? 27).map (fun i => (i.zero, i.size, i.bytes)) = some (some (.agg #[.int .i64 0, .int .i64 0, .int .i64 0, .slice none 0 0]), 4, 48) := by kernel_rfl
/-- The cells of n links. -/
def rawL (w : World) (b off n : Nat) : List Value := (List.range (n * 4)).map fun j => (w.cell? ⟨b, off + j, none⟩).getD undef
theorem rawL_len (w : World) (b off n : Nat) : (rawL w b off n).length = n * 4 := by simp [rawL]
theorem rawL_at (w : World) (b off n j : Nat) (h : j < n * 4) : (rawL w b off n)[j]? = some ((w.cell? ⟨b, off + j, none⟩).getD undef) := by
  unfold rawL; simp [h]
theorem addr_add (b off j : Nat) : (⟨b, off, none⟩ : Addr).add j = ⟨b, off + j, none⟩ := by unfold Addr.add; split <;> simp_all

set_option maxRecDepth 100000 in
set_option maxHeartbeats 2000000 in
theorem clone_any (b off n c : Nat) (w : World) (hn : n ≤ 40) (hc : ∀ j, j < n * 4 → ∃ u, w.cell? ⟨b, off + j, none⟩ = some u ∧ u.oneCell' = true) :
    Calls Try.prog 52 #[.slice (some ⟨b, off, none⟩) n c] w fun e w' => ∃ v', e = .returned v' ∧ w'.ownsRow w.heap.size 27 4 v' n (rawL w b off n) ∧ Below w.heap.size w w' := by
  obtain ⟨i0, hi, hz0, hz1, hz2⟩ := info_parts info_l
  have hq : ∀ (w : World) (a : Option Addr) (n c n' c' : Nat), (binOp .eql 22 (.slice a n c) (.slice none n' c')).run Try.prog w = .ok (.bool a.isNone) w := fun w a n c n' c' => Lib.run_eql_slice_nil w _ _ a n c n' c' Try.underlying22
  have HC := Lib.hid hc
  clear hc
  go_enter Try.func52, Try.ntmps52
  go_wp2_with (at_builtin; refine wpList_append_own _ rfl _ _ 22 rfl w.heap.size 27 i0 (.agg #[.int .i64 0, .int .i64 0, .int .i64 0, .slice none 0 0]) 4 48 Try.underlying22 hi hz0 hz1 hz2 rfl (by decide) _ _ _ rfl (World.ownsRow_made w #[] 0 (Nat.le_refl _) (Nat.zero_le _) rfl) ⟨b, off, none⟩ n c (rawL w b off n) rfl ?qc1 ?qc2 ?qc3 ?qc4 ?qc5 ?qc6 ?_)
  case qc1 => exact rawL_len _ _ _ _
  case qc2 =>
    intro j u hj
    have hjn : j < n * 4 := by
      have := (List.getElem?_eq_some_iff.1 hj).1
      rwa [rawL_len] at this
    rw [rawL_at _ _ _ _ _ hjn] at hj
    obtain ⟨x, hx, _⟩ := HC.out j hjn
    rw [addr_add]
    refine Lib.cell?_alloc_some _ ?_
    rw [hx] at hj ⊢
    exact hj
  case qc3 =>
    intro u hu
    obtain ⟨j, hj, rfl⟩ := List.mem_map.1 hu
    obtain ⟨x, hx, h1⟩ := HC.out j (List.mem_range.1 hj)
    rw [hx]; exact h1
  case qc4 => unfold maxLen; omega
  case qc5 => omega
  case qc6 => simp
  intro v' w1 hown hgrow hnil
  go_wp2
  go_ret
  exact ⟨v', rfl, by simpa using hown, ((Below.refl _ w).alloc (Nat.le_refl _) _).grown hgrow (by simp) (by intro k hk; simp [Value.ownBlock] at hk; omega)⟩

def shutK (k : Lk) : Lk := ⟨k.fr, k.to, k.dl, []⟩
theorem set_getD (l : List Lk) (i s : Nat) (v : Lk) (hi : i < l.length) : (l.set i v).getD s .nil = if s = i then v else l.getD s .nil := by
  rw [List.getD_eq_getElem?_getD, List.getD_eq_getElem?_getD, List.getElem?_set]
  by_cases e : i = s
  · subst e; simp [hi]
  · rw [if_neg e, if_neg (fun h => e h.symm)]
end Go.Proofs.Ytiboolbndfhomaa
