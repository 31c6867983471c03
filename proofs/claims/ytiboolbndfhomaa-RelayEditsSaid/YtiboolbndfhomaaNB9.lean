/- without of package relay: a net with a link that is never open. -/
import Derived.Test.YtiboolbndfhomaaNB8
set_option linter.unusedVariables false
set_option linter.unusedSimpArgs false
namespace Go.Proofs.Ytiboolbndfhomaa
open Go.RowKit

theorem info_nt : (Try.prog.info? 24).map (·.size) = some 2 := by kernel_rfl
theorem without_results {tmps : Array Value} {w : World} {R : Nat} {u v : Value} (h4 : tmps.getD 4 undef = .pointer (some ⟨R, 0, none⟩)) (hg : w.heap[R]? = some (.cells #[u, v] 24 (0, 0))) : (results Try.f47 tmps).run Try.prog w = .ok (.agg #[u, v]) w := by
  have h4' : tmps[4]?.getD undef = .pointer (some ⟨R, 0, none⟩) := by simpa using h4
  simp [results, Try.results47, asAddr, h4', run_loadVar_row w R 24 24 #[u, v] (0, 0) _ hg Try.underlying24 rfl info_nt]
def lessL (ls : List Lk) (i : Nat) : List Lk := ls.set i (shutK (ls.getD i .nil))
def WithoutOut (st : Int) (ls : List Lk) (i : Nat) (w : World) (e : Ending) (w' : World) : Prop := ∃ g cap, e = .returned (ntV st (.slice (some ⟨g, 0, none⟩) ls.length cap)) ∧ NRow w' (.slice (some ⟨g, 0, none⟩) ls.length cap) (lessL ls i) ∧ Below w.heap.size w w'

set_option maxRecDepth 100000 in
set_option maxHeartbeats 4000000 in
theorem without_any (st : Int) (o : Value) (ls : List Lk) (i : Nat) (w : World) (hv : NRow w o ls) (hi : i < ls.length) (h40 : ls.length ≤ 40) :
    Calls Try.prog 47 #[ntV st o, .int .i64 i] w fun e w' => WithoutOut st ls i w e w' := by
  obtain ⟨oa, oc, rfl, hlc⟩ := hv.row.form
  obtain ⟨b, off, rfl, hb, _⟩ := hlc i hi
  have hcell : ∀ k, k < ls.length → w.cell? ⟨b, off + k * 4, none⟩ = some (.int .i64 (ls.getD k .nil).fr) ∧ w.cell? ⟨b, off + k * 4 + 1, none⟩ = some (.int .i64 (ls.getD k .nil).to) ∧ w.cell? ⟨b, off + k * 4 + 2, none⟩ = some (.int .i64 (ls.getD k .nil).dl) ∧
      ∃ o, w.cell? ⟨b, off + k * 4 + 3, none⟩ = some o ∧ SpRow w o (ls.getD k .nil).op := fun k hk => by
    obtain ⟨b', off', e, _, h⟩ := hlc k hk
    cases e; exact h
  have hall : ∀ j, j < ls.length * 4 → ∃ u, w.cell? ⟨b, off + j, none⟩ = some u ∧ u.oneCell' = true := fun j hj => by
    obtain ⟨c0, c1, c2, o, c3, hs⟩ := hcell (j / 4) (by omega)
    obtain ⟨sa, sc, rfl, _⟩ := hs.form
    rcases (by omega : j = j / 4 * 4 ∨ j = j / 4 * 4 + 1 ∨ j = j / 4 * 4 + 2 ∨ j = j / 4 * 4 + 3) with h | h | h | h
    · exact ⟨_, by rw [h]; exact c0, rfl⟩
    · exact ⟨_, by rw [h, ← Nat.add_assoc]; exact c1, rfl⟩
    · exact ⟨_, by rw [h, ← Nat.add_assoc]; exact c2, rfl⟩
    · exact ⟨_, by rw [h, ← Nat.add_assoc]; exact c3, rfl⟩
  have HW1 : Hid (Below w.heap.size w ((w.alloc (.cells #[.int .i64 st, .slice (some ⟨b, off, none⟩) ls.length oc] 24)).alloc (.cells #[.int .i64 0, .slice none 0 0] 24))) := Lib.hid (((Below.refl _ w).alloc (Nat.le_refl _) _).alloc (by simp) _)
  have HCl := Lib.hid (fun W (h : Below w.heap.size w W) => clone_any b off ls.length oc W h40 (fun j hj => by
    obtain ⟨u, h1, h2⟩ := hall j hj
    exact ⟨u, (h.cell (p := ⟨b, _, none⟩) hb).trans h1, h2⟩))
  have HRaw : Hid (∀ W, Below w.heap.size w W → rawL W b off ls.length = rawL w b off ls.length) := Lib.hid (fun W h => by
    unfold rawL
    exact List.map_congr_left fun j _ => by rw [h.cell (p := ⟨b, off + j, none⟩) hb])
  have HCe := Lib.hid hcell
  have HOP := Lib.hid hv.op
  have hii : (i : Int) < ls.length := by omega
  have hi0 : (0 : Int) ≤ i := by omega
  clear hall hcell hlc hv hb
  unfold ntV
  go_enter Try.func47, Try.ntmps47
  go_wp2_with fail
  refine (HCl.out _ HW1.out).mono ?_
  rintro e w2 ⟨v', rfl, hown, hb2⟩
  rw [HRaw.out _ HW1.out] at hown
  have hnet : w2.cell? ⟨w.heap.size, 0, none⟩ = some (.int .i64 st) := (hb2.cell (p := ⟨w.heap.size, 0, none⟩) (by simp; omega)).trans (by
    rw [World.cell?_of_block (w := w.alloc _) (gNe _ _ _ (by simp)), World.cell?_alloc_new]; rfl)
  have hres : w2.heap[w.heap.size + 1]? = some (.cells #[.int .i64 0, .slice none 0 0] 24 (0, 0)) := (hb2.block _ (by simp)).trans (gAt _ _ _ (by simp))
  have hsz2 : w.heap.size + 2 ≤ w2.heap.size := by have := hb2.size; simpa using this
  have hB2 : Below w.heap.size w w2 := HW1.out.trans (hb2.mono HW1.out.size)
  rcases hown.2 with ⟨_, hn⟩ | ⟨g, cap, cur, hvv, hg, hbk, hn, hm, hs, ht⟩
  · exfalso; omega
  subst hvv
  have hgs : w.heap.size + 2 ≤ g := by simpa using hg
  have hcs : i * 4 + 3 < cur.size := by
    have := congrArg List.length ht
    rw [rawL_len, List.length_take] at this
    simp at this; omega
  obtain ⟨u0, q0⟩ : ∃ u, w2.cell? ⟨g, i * 4 + 3, none⟩ = some u := ⟨_, by rw [cellH hbk, Array.getElem?_eq_getElem hcs]⟩
  have q1 := freeH hbk (i * 4 + 3)
  have r0 : w2.cell? ⟨w.heap.size + 1, 0, none⟩ = some (.int .i64 0) := cellH hres 0
  have r1 : w2.cell? ⟨w.heap.size + 1, 1, none⟩ = some (.slice none 0 0) := cellH hres 1
  have r2 := freeH hres 0
  have r3 := freeH hres 1
  have hgz : w.heap.size ≠ g := by omega
  have hgr : w.heap.size + 1 ≠ g := by omega
  have hgr' : g ≠ w.heap.size + 1 := by omega
  have hcur : ∀ k j, k < ls.length → j < 4 → cur[k * 4 + j]? = w.cell? ⟨b, off + k * 4 + j, none⟩ := fun k j hk hj => by
    have h1 := rawL_at w b off ls.length (k * 4 + j) (by omega)
    rw [← ht, List.getElem?_take_of_lt (by omega), Array.getElem?_toList] at h1
    rw [h1]
    obtain ⟨c0, c1, c2, o, c3, _⟩ := HCe.out k hk
    rw [← Nat.add_assoc]
    rcases (by omega : j = 0 ∨ j = 1 ∨ j = 2 ∨ j = 3) with rfl | rfl | rfl | rfl
    · rw [Nat.add_zero, c0]; rfl
    · rw [c1]; rfl
    · rw [c2]; rfl
    · rw [c3]; rfl
  obtain ⟨W3, hW3⟩ : ∃ W3, w2.setCell ⟨g, i * 4 + 3, none⟩ (.slice none 0 0) = W3 := ⟨_, rfl⟩
  have hg3 : W3.heap[g]? = some (.cells (cur.setIfInBounds (i * 4 + 3) (.slice none 0 0)) 27 (0, 0)) := by rw [← hW3]; exact heap_same hbk _ _
  have hr3 : W3.heap[w.heap.size + 1]? = some (.cells #[.int .i64 0, .slice none 0 0] 24 (0, 0)) := by rw [← hW3]; exact (heap_other _ _ _ _ _ hgr).trans hres
  have hB3 : Below w.heap.size w W3 := by rw [← hW3]; exact hB2.setCell (p := ⟨g, i * 4 + 3, none⟩) (by simp only; omega) _
  obtain ⟨W4, hW4⟩ : ∃ W4, (W3.setCell ⟨w.heap.size + 1, 0, none⟩ (.int .i64 st)).setCell ⟨w.heap.size + 1, 1, none⟩ (.slice (some ⟨g, 0, none⟩) ls.length cap) = W4 := ⟨_, rfl⟩
  have hg4 : W4.heap[g]? = some (.cells (cur.setIfInBounds (i * 4 + 3) (.slice none 0 0)) 27 (0, 0)) := by rw [← hW4, heap_other _ _ _ _ _ hgr', heap_other _ _ _ _ _ hgr']; exact hg3
  have hr4 : W4.heap[w.heap.size + 1]? = some (.cells #[.int .i64 st, .slice (some ⟨g, 0, none⟩) ls.length cap] 24 (0, 0)) := by
    rw [← hW4, heap_same (heap_same hr3 0 _) 1]; rfl
  have hB4 : Below w.heap.size w W4 := by
    rw [← hW4]; exact (hB3.setCell (p := ⟨w.heap.size + 1, 0, none⟩) (by simp only; omega) _).setCell (p := ⟨w.heap.size + 1, 1, none⟩) (by simp only; omega) _
  have hN : NRow W4 (.slice (some ⟨g, 0, none⟩) ls.length cap) (lessL ls i) := by
    have hll : (lessL ls i).length = ls.length := by unfold lessL; rw [List.length_set]
    refine ⟨.inr ⟨g, 0, cap, by rw [hll], (Array.getElem?_eq_some_iff.1 hg4).1, fun k hk => ?_⟩, fun k hk => ?_, by rw [hll]; omega⟩
    · rw [hll] at hk
      have e : (lessL ls i).getD k .nil = if k = i then shutK (ls.getD i .nil) else ls.getD k .nil := set_getD _ _ _ _ hi
      rw [e, Nat.zero_add, cellH hg4 (k * 4), cellH hg4 (k * 4 + 1), cellH hg4 (k * 4 + 2), cellH hg4 (k * 4 + 3)]
      obtain ⟨c0, c1, c2, o, c3, hsp⟩ := HCe.out k hk
      have n0 := hcur k 0 hk (by omega)
      have n1 := hcur k 1 hk (by omega)
      have n2 := hcur k 2 hk (by omega)
      have n3 := hcur k 3 hk (by omega)
      rw [Nat.add_zero, Nat.add_zero] at n0
      rw [Array.getElem?_setIfInBounds_ne (by omega), Array.getElem?_setIfInBounds_ne (by omega), Array.getElem?_setIfInBounds_ne (by omega), n0, n1, n2, c0, c1, c2]
      by_cases c : k = i
      · subst c
        rw [if_pos rfl]
        exact ⟨rfl, rfl, rfl, .slice none 0 0, Array.getElem?_setIfInBounds_self_of_lt hcs, SpRow.nil _⟩
      · rw [if_neg c]
        exact ⟨rfl, rfl, rfl, o, by rw [Array.getElem?_setIfInBounds_ne (by omega), n3, c3], hsp.keep hB4⟩
    · unfold lessL at hk
      rcases List.mem_or_eq_of_mem_set hk with h | h
      · exact HOP.out k h
      · rw [h]; simp [shutK]
  have HN := Lib.hid hN
  have HB4 := Lib.hid hB4
  have HR4 := Lib.hid hr4
  have HW3 := Lib.hid hW3
  have HW4 := Lib.hid hW4
  clear hown hb2 hres hsz2 hB2 hg hbk hn hm hs ht hgs hcur hW3 hg3 hr3 hB3 hW4 hg4 hr4 hB4 hN hcs
  go_wp2_with fail
  rw [HW3.out, HW4.out]
  refine bodyPost_ret (without_results rfl HR4.out) rfl ?_
  exact ⟨g, cap, rfl, HN.out, HB4.out⟩
end Go.Proofs.Ytiboolbndfhomaa
