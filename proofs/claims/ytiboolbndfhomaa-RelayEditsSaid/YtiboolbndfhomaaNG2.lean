/- shut of the reference: a net with a link that is never open. -/
import Derived.Test.YtiboolbndfhomaaNF4
set_option linter.unusedVariables false
set_option linter.unusedSimpArgs false
namespace Go.Proofs.Ytiboolbndfhomaa
open Go.RowKit

theorem row_set3 {w : World} {base : Nat} {e : TypeId} {size : Nat} {v : Value} {n : Nat} {xs : List Value} (h : w.ownsRow base e size v n xs) {q : Nat} {C : Array Value} {t : TypeId} {fr : Nat × Nat} (hq : w.heap[q]? = some (Obj.cells C t fr)) (hne : t ≠ e) (k : Nat) (u : Value) : (w.setCell ⟨q, k, none⟩ u).ownsRow base e size v n xs :=
  have hb : Below q w (w.setCell ⟨q, k, none⟩ u) := by
    refine Below.setCell (Below.refl q w) ?_ u
    exact Nat.le_refl q
  World.ownsRow.kept h (row := some q) ⟨hb.os, hb.tape, hb.output, by simp, fun b hb hn => heap_other _ _ _ _ _ (fun e => hn (by rw [e]))⟩ (.inr (fun e => own_ne h hq hne e.symm))
theorem shut_results {tmps : Array Value} {w : World} {R : Nat} {u v : Value} (h4 : tmps.getD 4 undef = .pointer (some ⟨R, 0, none⟩)) (hg : w.heap[R]? = some (.cells #[u, v] 24 (0, 0))) : (results Try.f48 tmps).run Try.prog w = .ok (.agg #[u, v]) w := by
  have h4' : tmps[4]?.getD undef = .pointer (some ⟨R, 0, none⟩) := by simpa using h4
  simp [results, Try.results48, asAddr, h4', run_loadVar_row w R 24 24 #[u, v] (0, 0) _ hg Try.underlying24 rfl info_nt]

set_option maxRecDepth 100000 in
set_option maxHeartbeats 4000000 in
theorem rshut_any (st : Int) (o : Value) (ls : List Lk) (i : Nat) (w : World) (hv : NRow w o ls) (hi : i < ls.length) (h40 : ls.length ≤ 40) :
    Calls Try.prog 48 #[ntV st o, .int .i64 i] w fun e w' => WithoutOut st ls i w e w' := by
  obtain ⟨oa, oc, rfl, hlc⟩ := hv.row.form
  obtain ⟨b, off, rfl, hb, _⟩ := hlc i hi
  have HLM : Hid (LinkMem w b off ls) := Lib.hid ⟨hb, fun k hk => by
    obtain ⟨b', o', e', _, hc⟩ := hlc k hk
    cases e'
    exact hc⟩
  have HOP := Lib.hid hv.op
  have hii : (i : Int) < ls.length := by omega
  have hi0 : (0 : Int) ≤ i := by omega
  have HA := Lib.hid (fun W' => two_cells w #[.int .i64 st, .slice (some ⟨b, off, none⟩) ls.length oc] #[.int .i64 0, .slice none 0 0] 24 24 (W := W'))
  have HB0 := Lib.hid (((Below.refl _ w).alloc (Nat.le_refl w.heap.size) (.cells #[.int .i64 st, .slice (some ⟨b, off, none⟩) ls.length oc] 24)).alloc (by simp) (.cells #[.int .i64 0, .slice none 0 0] 24))
  obtain ⟨W1, hW1⟩ : ∃ W1, (w.alloc (.cells #[.int .i64 st, .slice (some ⟨b, off, none⟩) ls.length oc] 24)).alloc (.cells #[.int .i64 0, .slice none 0 0] 24) = W1 := ⟨_, rfl⟩
  have HSZ : Hid (W1.heap.size = w.heap.size + 2) := Lib.hid (by rw [← hW1]; simp)
  rw [hW1] at HA HB0
  have HW1 := Lib.hid hW1
  obtain ⟨m0, m1, hlt, _⟩ := HA.out W1 (Below.refl _ _)
  have n0 := cellH m0 0
  have n1 := cellH m0 1
  simp at n0 n1
  have hlt0 : w.heap.size < W1.heap.size := by omega
  have hne0 : w.heap.size ≠ W1.heap.size := by omega
  unfold ntV
  clear hlc hv hb hW1 m0 m1
  go_enter Try.func48, Try.ntmps48
  go_wp2_with fail
  rw [HW1.out]
  rename_i Q K hK
  obtain ⟨i0, hi0', hz0, hz1, hz2⟩ := info_parts info_l
  have HRD : Hid (∀ W', Below W1.heap.size W1 W' → W'.cell? ⟨w.heap.size, 0, none⟩ = some (.int .i64 st) ∧ W'.cell? ⟨w.heap.size, 1, none⟩ = some (.slice (some ⟨b, off, none⟩) ls.length oc)) := Lib.hid (fun W' h => ⟨(h.cell (p := ⟨w.heap.size, 0, none⟩) hlt0).trans n0, (h.cell (p := ⟨w.heap.size, 1, none⟩) hlt0).trans n1⟩)
  have HBW : Hid (∀ W', Below W1.heap.size W1 W' → Below w.heap.size w W') := Lib.hid (fun W' h => HB0.out.trans (h.mono HB0.out.size))
  have HQ1 : Hid (∀ W', Below W1.heap.size W1 W' → ∀ i u, (rawL w b off ls.length)[i]? = some u → W'.cell? ((⟨b, off, none⟩ : Addr).add i) = some u) := Lib.hid (fun W' h => by
    have h1 := (LinkMem.raw HLM.out (HBW.out _ h) (p := 0) (n := ls.length) (by omega)).1
    simpa using h1)
  have HO1c : Hid (∀ u ∈ rawL w b off ls.length, u.oneCell' = true) := Lib.hid (by
    have h1 := (LinkMem.raw HLM.out (Below.refl _ w) (p := 0) (n := ls.length) (by omega)).2
    simpa using h1)
  suffices key : ∀ (p : Nat) (ga : Option Addr) (gc : Nat) (x8 : Value) (WW : World), Hid (Below W1.heap.size W1 WW) → Hid (WW.heap[p]? = some (.cells #[.int .i64 st, .slice ga ls.length gc] 24 (0, 0))) → Hid (W1.heap.size ≤ p) → Hid (WW.ownsRow W1.heap.size 27 4 (.slice ga ls.length gc) ls.length (rawL w b off ls.length)) → Exit.then K Q Exit.normal { tmps := #[.agg #[.int .i64 st, .slice (some ⟨b, off, none⟩) ls.length oc], .int .i64 i, .pointer (some ⟨w.heap.size, 0, none⟩), undef, .pointer (some ⟨w.heap.size + 1, 0, none⟩), .pointer (some ⟨p, 0, none⟩), .pointer (some ⟨w.heap.size, 0, none⟩), .int .i64 st, x8, .pointer (some ⟨w.heap.size, 1, none⟩), .slice (some ⟨b, off, none⟩) ls.length oc, .slice ga ls.length gc, .agg #[.int .i64 st, .slice ga ls.length gc], undef, undef, undef, undef, undef, undef], defers := [] } WW by
    have hKD : (fun w' => Below W1.heap.size W1 w' ∧ w'.cell? ⟨w.heap.size, 0, none⟩ = some (.int .i64 st) ∧ w'.cell? ⟨w.heap.size, 1, none⟩ = some (.slice (some ⟨b, off, none⟩) ls.length oc)) W1.drew := ⟨(Below.refl _ W1).drew, (HRD.out _ (Below.refl _ W1).drew).1, (HRD.out _ (Below.refl _ W1).drew).2⟩
    have hKB : ∀ w', Below W1.heap.size W1 w' → (fun w' => Below W1.heap.size W1 w' ∧ w'.cell? ⟨w.heap.size, 0, none⟩ = some (.int .i64 st) ∧ w'.cell? ⟨w.heap.size, 1, none⟩ = some (.slice (some ⟨b, off, none⟩) ls.length oc)) w' := fun w' h => ⟨h, (HRD.out _ h).1, (HRD.out _ h).2⟩
    have HKD := Lib.hid hKD
    have HKB := Lib.hid hKB
    clear hKD hKB
    go_region_held_law (fun w' => Below W1.heap.size W1 w' ∧ w'.cell? ⟨w.heap.size, 0, none⟩ = some (.int .i64 st) ∧ w'.cell? ⟨w.heap.size, 1, none⟩ = some (.slice (some ⟨b, off, none⟩) ls.length oc)) (first
      | exact HKD.out
      | assumption
      | (refine HKB.out _ (Below.alloc (And.left (by assumption)) ?_ _); exact (And.left (by assumption : Below W1.heap.size W1 _ ∧ _)).size)
      | (refine HKB.out _ (Below.setCell (Below.setCell HB5 ?_ _) ?_ _) <;> first | (simp; done) | (simp; omega) | exact Nat.le_refl _)) (first
    | (refine step_append_own rfl (.tmp 8) (.tmp 10) 22 rfl 27 i0 (.agg #[.int .i64 0, .int .i64 0, .int .i64 0, .slice none 0 0]) 4 48 Try.underlying22 hi0' hz0 hz1 hz2 rfl (by decide) W1.heap.size _ 0 [] rfl (by first | exact made_two _ _ | exact World.ownsRow_made _ #[] 0 (by first | (simp; done) | (simp; omega)) (by unfold maxLen; omega) rfl | exact (World.ownsRow_made _ #[] 0 (by first | (simp; done) | (simp; omega)) (by unfold maxLen; omega) rfl).alloc _) ⟨b, off, none⟩ ls.length oc (rawL w b off ls.length) rfl (rawL_len _ _ _ _) (HQ1.out _ (And.left (by assumption))) HO1c.out (by unfold maxLen; omega) (by omega) (by first | (simp; done) | (simp; omega)) ?_; intro v1 w5 HO1 HG1; have HB5 : Below W1.heap.size W1 w5 := Below.grown (And.left (by assumption)) HG1 (by first | (simp; done) | (simp; omega)) (fun k e => by cases e; first | (simp; done) | (simp; omega) | exact Nat.le_refl _); have hS5 := HKB.out w5 HB5; have hs5 := HB5.size; rw [Nat.zero_add, List.nil_append] at HO1; obtain ⟨ga, gc, rfl⟩ := row_form HO1; first
      | (have hN5 := nf_two HG1 rfl; have x0 := cellH hN5 0; have x1 := cellH hN5 1; have f0 := freeH hN5 0; have f1 := freeH hN5 1; simp at x0 x1)
      | (have hN5 := nf_one HG1 rfl; have x0 := cellH hN5 0; have x1 := cellH hN5 1; have f0 := freeH hN5 0; have f1 := freeH hN5 1; simp at x0 x1)
      | skip))
    all_goals clear hK
    all_goals first
      | exact key w5.heap.size ga gc _ _ (Lib.hid (HB5.alloc hs5 _)) (Lib.hid (heap_alloc_new w5 _)) (Lib.hid hs5) (Lib.hid (World.ownsRow.alloc HO1 _))
      | exact key _ ga gc _ _ (Lib.hid (And.left (by assumption))) (Lib.hid (set_pair5 hN5)) (Lib.hid (by first | exact Nat.le_refl _ | exact hs5 | omega)) (Lib.hid (row_set3 (row_set3 HO1 hN5 tNeNL 0 _) (heap_same hN5 0 _) tNeNL 1 _))
  intro p ga gc x8 WW HWB HWN HWP HWR
  show K _ _
  apply hK
  clear hK n0 n1
  have hnet := HRD.out WW HWB.out
  obtain ⟨_, hm1, _, _⟩ := HA.out WW HWB.out
  have hBw := HBW.out WW HWB.out
  have hsz := HSZ.out
  have hown := HWR.out
  have hpn := HWN.out
  have hpg : some p ≠ (Value.slice ga ls.length gc).ownBlock := own_ne hown hpn tNeNL
  rcases hown.2 with ⟨_, hn⟩ | ⟨g, cap, cur, hvv, hg, hbk, hn, hm, hs, ht⟩
  · exfalso; omega
  cases hvv
  have hpg' : p ≠ g := fun e => hpg (by rw [e]; rfl)
  have hgp : g ≠ p := fun e => hpg' e.symm
  have hwp := HWP.out
  have hcs : i * 4 + 3 < cur.size := by
    have := congrArg List.length ht
    rw [rawL_len, List.length_take] at this
    simp at this; omega
  obtain ⟨u0, q0⟩ : ∃ u, WW.cell? ⟨g, i * 4 + 3, none⟩ = some u := ⟨_, by rw [cellH hbk, Array.getElem?_eq_getElem hcs]⟩
  have q1 := freeH hbk (i * 4 + 3)
  have r0 : WW.cell? ⟨w.heap.size + 1, 0, none⟩ = some (.int .i64 0) := cellH hm1 0
  have r1 : WW.cell? ⟨w.heap.size + 1, 1, none⟩ = some (.slice none 0 0) := cellH hm1 1
  have r2 := freeH hm1 0
  have r3 := freeH hm1 1
  have p0 := cellH hpn 0
  have p1 := cellH hpn 1
  simp at p0 p1
  have hgr : w.heap.size + 1 ≠ g := by omega
  have hgr' : g ≠ w.heap.size + 1 := by omega
  have hpr : p ≠ w.heap.size + 1 := by omega
  have hcur : ∀ k j, k < ls.length → j < 4 → cur[k * 4 + j]? = w.cell? ⟨b, off + k * 4 + j, none⟩ := fun k j hk hj => by
    have h1 := rawL_at w b off ls.length (k * 4 + j) (by omega)
    rw [← ht, List.getElem?_take_of_lt (by omega), Array.getElem?_toList] at h1
    rw [h1]
    obtain ⟨c0, c1, c2, o, c3, _⟩ := HLM.out.2 k hk
    rw [← Nat.add_assoc]
    rcases (by omega : j = 0 ∨ j = 1 ∨ j = 2 ∨ j = 3) with rfl | rfl | rfl | rfl
    · rw [Nat.add_zero, c0]; rfl
    · rw [c1]; rfl
    · rw [c2]; rfl
    · rw [c3]; rfl
  obtain ⟨W3, hW3⟩ : ∃ W3, WW.setCell ⟨g, i * 4 + 3, none⟩ (.slice none 0 0) = W3 := ⟨_, rfl⟩
  have hg3 : W3.heap[g]? = some (.cells (cur.setIfInBounds (i * 4 + 3) (.slice none 0 0)) 27 (0, 0)) := by rw [← hW3]; exact heap_same hbk _ _
  have hr3 : W3.heap[w.heap.size + 1]? = some (.cells #[.int .i64 0, .slice none 0 0] 24 (0, 0)) := by rw [← hW3]; exact (heap_other _ _ _ _ _ hgr).trans hm1
  have hB3 : Below w.heap.size w W3 := by rw [← hW3]; exact hBw.setCell (p := ⟨g, i * 4 + 3, none⟩) (by simp only; omega) _
  obtain ⟨W4, hW4⟩ : ∃ W4, (W3.setCell ⟨w.heap.size + 1, 0, none⟩ (.int .i64 st)).setCell ⟨w.heap.size + 1, 1, none⟩ (.slice (some ⟨g, 0, none⟩) ls.length gc) = W4 := ⟨_, rfl⟩
  have hg4 : W4.heap[g]? = some (.cells (cur.setIfInBounds (i * 4 + 3) (.slice none 0 0)) 27 (0, 0)) := by rw [← hW4, heap_other _ _ _ _ _ hgr', heap_other _ _ _ _ _ hgr']; exact hg3
  have hr4 : W4.heap[w.heap.size + 1]? = some (.cells #[.int .i64 st, .slice (some ⟨g, 0, none⟩) ls.length gc] 24 (0, 0)) := by
    rw [← hW4, heap_same (heap_same hr3 0 _) 1]; rfl
  have hB4 : Below w.heap.size w W4 := by
    rw [← hW4]; exact (hB3.setCell (p := ⟨w.heap.size + 1, 0, none⟩) (by simp only; omega) _).setCell (p := ⟨w.heap.size + 1, 1, none⟩) (by simp only; omega) _
  have hN : NRow W4 (.slice (some ⟨g, 0, none⟩) ls.length gc) (lessL ls i) := by
    have hll : (lessL ls i).length = ls.length := by unfold lessL; rw [List.length_set]
    refine ⟨.inr ⟨g, 0, gc, by rw [hll], (Array.getElem?_eq_some_iff.1 hg4).1, fun k hk => ?_⟩, fun k hk => ?_, by rw [hll]; omega⟩
    · rw [hll] at hk
      have e : (lessL ls i).getD k .nil = if k = i then shutK (ls.getD i .nil) else ls.getD k .nil := set_getD _ _ _ _ hi
      rw [e, Nat.zero_add, cellH hg4 (k * 4), cellH hg4 (k * 4 + 1), cellH hg4 (k * 4 + 2), cellH hg4 (k * 4 + 3)]
      obtain ⟨c0, c1, c2, o, c3, hsp⟩ := HLM.out.2 k hk
      have n0 := hcur k 0 hk (by omega)
      have n1 := hcur k 1 hk (by omega)
      have n2 := hcur k 2 hk (by omega)
      have n3 := hcur k 3 hk (by omega)
      rw [Nat.add_zero, Nat.add_zero] at n0
      rw [Array.getElem?_setIfInBounds_ne (by omega), Array.getElem?_setIfInBounds_ne (by omega), Array.getElem?_setIfInBounds_ne (by omega), n0, n1, n2, c0, c1, c2]
      by_cases c : k = i
      · subst c
        rw [if_pos rfl]
        exact ⟨rfl, rfl, rfl, .slice none 0 0, Array.getElem?_setIfInBounds_self_of_lt hcs, SpRow.nil _⟩
      · rw [if_neg c]
        exact ⟨rfl, rfl, rfl, o, by rw [Array.getElem?_setIfInBounds_ne (by omega), n3, c3], hsp.keep hB4⟩
    · unfold lessL at hk
      rcases List.mem_or_eq_of_mem_set hk with h | h
      · exact HOP.out k h
      · rw [h]; simp [shutK]
  have HN := Lib.hid hN
  have HB4 := Lib.hid hB4
  have HR4 := Lib.hid hr4
  have HW3 := Lib.hid hW3
  have HW4 := Lib.hid hW4
  clear hown hm1 hnet hBw hsz hpn hpg hg hbk hn hm hs ht hwp hcur hW3 hg3 hr3 hB3 hW4 hg4 hr4 hB4 hN hcs
  go_wp2_with fail
  rw [HW3.out, HW4.out]
  refine bodyPost_ret (shut_results rfl HR4.out) rfl ?_
  exact ⟨g, gc, rfl, HN.out, HB4.out⟩
end Go.Proofs.Ytiboolbndfhomaa
