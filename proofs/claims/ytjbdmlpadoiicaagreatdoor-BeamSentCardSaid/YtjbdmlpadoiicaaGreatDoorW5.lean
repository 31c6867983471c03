/- The reference's Results. -/
import Derived.Test.YtjbdmlpadoiicaaGreatDoorW2
import Derived.Test.YtjbdmlpadoiicaaGreatDoorA3
import Derived.Test.YtjbdmlpadoiicaaGreatDoorU0
import Derived.Carry
set_option linter.unusedVariables false
set_option linter.unusedSimpArgs false
namespace Go.Proofs.YtjbdmlpadoiicaaGreatDoor
open Go.RowKit Go.Shelf

theorem rfew_any (n : Int) (w : World) : Calls Tryz.prog 40 #[.int .i64 n] w fun e w' => e = .returned (.bool (decide (faultsE n = 0))) ∧ w = w' := by
  by_cases h1 : 0 ≤ n
  · by_cases h2 : n ≤ 2
    · have HF : Hid (decide (faultsE n = 0) = true) := Lib.hid (by unfold faultsE; rw [if_neg (by omega)]; rfl)
      go_enter Tryz.func40, Tryz.ntmps40
      go_wp2_with fail
      go_ret
      exact ⟨ret_bool HF.out.symm, rfl⟩
    · have HF : Hid (decide (faultsE n = 0) = false) := Lib.hid (by unfold faultsE; rw [if_pos (by omega)]; rfl)
      have h2' : decide (n ≤ 2) = false := decide_eq_false h2
      clear h2
      go_enter Tryz.func40, Tryz.ntmps40
      go_wp2_with fail
      go_ret
      exact ⟨ret_bool HF.out.symm, rfl⟩
  · have HF : Hid (decide (faultsE n = 0) = false) := Lib.hid (by unfold faultsE; rw [if_pos (by omega)]; rfl)
    have h1' : decide (0 ≤ n) = false := decide_eq_false h1
    clear h1
    go_enter Tryz.func40, Tryz.ntmps40
    go_wp2_with fail
    go_ret
    exact ⟨ret_bool HF.out.symm, rfl⟩

def textsA (v : Value) (e : Int) : Value := .agg #[v, .int .i64 e]
/-- A row that lies in another block than r. -/
def TRowN (r : Nat) (w : World) (v : Value) (l : List (List UInt8)) : Prop :=
  ∃ b off cap, v = .slice (some ⟨b, off, none⟩) l.length cap ∧ b ≠ r ∧ l.length ≤ cap ∧ b < w.heap.size ∧ ∀ i, i < l.length → w.cell? ⟨b, off + i, none⟩ = some (.string (B (l.getD i [])))
theorem TRow.far {w : World} {v : Value} {l : List (List UInt8)} (h : TRow w v l) {r : Nat} (hl : l ≠ []) (hr : ∀ o x, w.cell? ⟨r, o, none⟩ ≠ some (.string x)) : TRowN r w v l := by
  obtain ⟨b, off, cap, h1, h2, h3, h4⟩ := h
  refine ⟨b, off, cap, h1, ?_, h2, h3, h4⟩
  rintro rfl
  exact hr _ _ (h4 0 (List.length_pos_iff.2 hl))
theorem TRowN.setCell {r : Nat} {w : World} {v : Value} {l : List (List UInt8)} (h : TRowN r w v l) (o : Nat) (u : Value) : TRowN r (w.setCell ⟨r, o, none⟩ u) v l := by
  obtain ⟨b, off, cap, h1, h0, h2, h3, h4⟩ := h
  refine ⟨b, off, cap, h1, h0, h2, by simpa using h3, fun i hi => ?_⟩
  exact (World.cell?_of_block (w := w) (a := ⟨b, _, none⟩) (Below.heap_setCell _ _ _ b h0)).trans (h4 i hi)
theorem TRowN.row {r : Nat} {w : World} {v : Value} {l : List (List UInt8)} (h : TRowN r w v l) : TRow w v l := by
  obtain ⟨b, off, cap, h1, _, h2, h3, h4⟩ := h
  exact ⟨b, off, cap, h1, h2, h3, h4⟩

theorem rResults_err (s : ByteArray) (n : Int) (w : World) (hs : s.size ≤ maxLen) (hE : resE s.data.toList n ≠ 0) :
    Calls Tryz.prog 84 #[.string s, .int .i64 n] w fun e w' => e = .returned (textsA (.slice none 0 0) (resE s.data.toList n)) ∧ Below w.heap.size w w' := by
  obtain ⟨q, eq⟩ : ∃ q, flashE s.data.toList 100 = q := ⟨_, rfl⟩
  by_cases h0 : q = 0
  · have hf : faultsE n ≠ 0 := by unfold resE orI at hE; rw [eq, if_pos h0] at hE; exact hE
    have hf1 : faultsE n = 1 := by
      unfold faultsE at hf ⊢
      by_cases h : n < 0 ∨ 2 < n
      · rw [if_pos h]
      · rw [if_neg h] at hf; exact absurd rfl hf
    have HR : Hid (resE s.data.toList n = 1) := Lib.hid (by unfold resE orI; rw [eq, if_pos h0, hf1])
    have HF : Hid (decide (faultsE n = 0) = false) := Lib.hid (decide_eq_false hf)
    have HQ := Lib.hid (eq.trans h0)
    clear hE hf hf1 eq h0
    go_enter Tryz.func84, Tryz.ntmps84
    go_wp2_with fail
    refine (rflashes_any _ _ _ hs).mono ?_
    rintro e w' ⟨rfl, rfl⟩
    rw [HQ.out]
    go_wp2_with fail
    refine (rfew_any _ _).mono ?_
    rintro e w' ⟨rfl, rfl⟩
    rw [HF.out]
    go_wp2_with fail
    rw [HR.out]
    refine bodyPost_ret (v := textsA (.slice none 0 0) 1) ?_ rfl ⟨rfl, ?_⟩
    · simp [results, Tryz.results84, go_sem, textsA]
    · exact (Below.refl _ w).alloc (Nat.le_refl _) _
  · have HR : Hid (resE s.data.toList n = q) := Lib.hid (by unfold resE orI; rw [eq, if_neg h0])
    have hne : (q != 0) = true := by simpa using h0
    have HQ := Lib.hid eq
    clear hE eq h0
    go_enter Tryz.func84, Tryz.ntmps84
    go_wp2_with fail
    refine (rflashes_any _ _ _ hs).mono ?_
    rintro e w' ⟨rfl, rfl⟩
    rw [HQ.out]
    go_wp2_with fail
    rw [HR.out]
    refine bodyPost_ret (v := textsA (.slice none 0 0) q) ?_ rfl ⟨rfl, ?_⟩
    · simp [results, Tryz.results84, go_sem, textsA]
    · exact (Below.refl _ w).alloc (Nat.le_refl _) _

theorem resL_ne (s : List UInt8) (n : Nat) : resL s n ≠ [] := by
  obtain ⟨x, hx⟩ := List.exists_mem_of_ne_nil _ (walkL_ne s n 0 [])
  intro e
  have := ((tidy_strict (outL s n)).2 x).2 hx
  rw [show tidy (outL s n) = resL s n from rfl, e] at this; simp at this

theorem rResults_ok (s : List UInt8) (n : Nat) (w : World) (hE : resE s n = 0) :
    Calls Tryz.prog 84 #[.string (B s), .int .i64 n] w fun e w' => ∃ v, e = .returned (textsA v 0) ∧ TRow w' v (resL s n) ∧ Below w.heap.size w w' := by
  obtain ⟨h1, _, h3⟩ := resE_ok hE
  have hn2 : n ≤ 2 := by omega
  have hs : (B s).size ≤ maxLen := by rw [size_B]; unfold maxLen; omega
  have hq : flashE s 100 = 0 := by unfold resE orI at hE; split at hE <;> assumption
  have hf : faultsE n = 0 := by unfold faultsE; rw [if_neg (by omega)]
  have HQ : Hid (flashE (B s).data.toList 100 = 0) := Lib.hid (by rw [L_B]; exact hq)
  have HF : Hid (decide (faultsE n = 0) = true) := Lib.hid (decide_eq_true hf)
  have hgl : (growR s n []).length ≤ 100000 := by
    have a1 := growR_len s.length s n [] (Nat.le_refl _)
    have a2 : (3 * s.length + 1) ^ n ≤ 301 ^ n := Nat.pow_le_pow_left (by omega) n
    have a3 : 301 ^ n ≤ 301 ^ 2 := Nat.pow_le_pow_right (by omega) hn2
    omega
  have hgn : growR s n [] ≠ [] := by
    obtain ⟨x, hx⟩ := List.exists_mem_of_ne_nil _ (walkL_ne s n 0 [])
    intro e
    have := (grow_out (s := s) (n := n) (x := x)).2 hx
    rw [e] at this; simp at this
  have HS0 : Hid (∀ X, SetAt ((w.alloc X).alloc (.map #[] 0)) (w.heap.size + 1) []) := Lib.hid fun X => by
    have := World.ownsMap_made (w.alloc X) Tryz.prog 9 (plainElem (H := Unit) Tryz.prog 4)
    rw [World.size_alloc] at this
    exact this
  have HGL := Lib.hid hgl
  have HGN := Lib.hid hgn
  have hmm := @run_makeMap Tryz.prog
  clear hE hq hf hgl hgn h3
  go_enter Tryz.func84, Tryz.ntmps84
  go_wp2_with fail
  refine (rflashes_any _ _ _ hs).mono ?_
  rintro e w' ⟨rfl, rfl⟩
  rw [HQ.out]
  go_wp2_with fail
  refine (rfew_any _ _).mono ?_
  rintro e w' ⟨rfl, rfl⟩
  rw [HF.out]
  go_wp2_with fail
  refine (grow_any s h1 (w.heap.size + 1) s.length 0 n [] [] _ 0 n ⟨#[]⟩ (by omega) hn2 (by simp; omega) (by rw [List.drop_zero]; simp; have := HGL.out; omega) (HS0.out _) rfl rfl rfl).mono ?_
  rintro e w1 ⟨rfl, hS1, hg1⟩
  rw [List.drop_zero, List.nil_append] at hS1
  have HS1 := Lib.hid hS1
  have hb1 : w1.heap[w.heap.size]? = some (.cells #[.slice none 0 0, .int .i64 0] 141 (0, 0)) := by
    rw [hg1.block w.heap.size (by simp; omega) (by simp)]
    exact (heap_alloc_old' _ _ _ (by simp)).trans (heap_alloc_new w _)
  have HB1 : Hid (Below w.heap.size w w1) := Lib.hid (((((Below.refl _ w).alloc (Nat.le_refl _) _).alloc (by simp) _).grown hg1 (by simp; omega) (fun k e => by cases e; omega)))
  have HC1 := Lib.hid hb1
  clear hS1 hg1 hb1 hmm
  go_wp2_with fail
  refine (sorted_any (w.heap.size + 1) (growR s n []) HGN.out (by have := HGL.out; omega) w1 HS1.out).mono ?_
  rintro e w2 ⟨v, ys, rfl, hT, hst, hmem, hyl, hb2⟩
  have hy : ys = resL s n := res_of_grow hst hmem
  subst hy
  have hlt : w.heap.size < w1.heap.size := (Array.getElem?_eq_some_iff.1 HC1.out).1
  have hc2 : w2.heap[w.heap.size]? = some (.cells #[.slice none 0 0, .int .i64 0] 141 (0, 0)) := (hb2.block _ hlt).trans HC1.out
  have hd0 : w2.cell? ⟨w.heap.size, 0, none⟩ = some (.slice none 0 0) := cell_of_heap hc2 0
  have hd1 : w2.cell? ⟨w.heap.size, 1, none⟩ = some (.int .i64 0) := cell_of_heap hc2 1
  have g0 := free_of_heap hc2 0
  have g1 := free_of_heap hc2 1
  have HN := Lib.hid (hT.far (r := w.heap.size) (resL_ne s n) (fun o x => by
    rw [cell_of_heap hc2 o]
    match o with
    | 0 => simp
    | 1 => simp
    | o + 2 => simp))
  have HB2 := Lib.hid (HB1.out.trans (hb2.mono HB1.out.size))
  obtain ⟨b, off, cap, rfl, _⟩ := hT
  clear hst hmem hb2 hlt
  go_wp2_with fail
  refine bodyPost_ret (v := textsA (.slice (some ⟨b, off, none⟩) (resL s n).length cap) 0) ?_ rfl ⟨_, rfl, ?_, ?_⟩
  · simp [results, Tryz.results84, go_sem, textsA, hd0, hd1]
  · exact ((HN.out.setCell 0 _).setCell 1 _).row
  · exact (HB2.out.setCell (p := ⟨w.heap.size, 0, none⟩) (Nat.le_refl _) _).setCell (p := ⟨w.heap.size, 1, none⟩) (Nat.le_refl _) _
end Go.Proofs.YtjbdmlpadoiicaaGreatDoor
