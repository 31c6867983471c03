/- The law's without and only: a country with some of its towers. -/
import Derived.Test.YtnacgogcbbpjmaaHC1
import Derived.Test.YtnacgogcbbpjmaaHM1
import Derived.Test.YtnacgogcbbpjmaaHJ0
set_option linter.unusedVariables false
set_option linter.unusedSimpArgs false
namespace Go.Proofs.Ytnacgogcbbpjmaa
open Go Go.RowKit

theorem TwRow.of_own {w : World} {base : Nat} {v : Value} {l : List Tw} (h : w.ownsRow base 48 4 v l.length (l.flatMap encT)) : TwRow w v l := by
  rcases h.2 with ⟨h1, h2⟩ | ⟨nb, nc, cur, e1, e2, e3, e4, e5, e6⟩
  · have : l = [] := List.eq_nil_of_length_eq_zero h2
    subst this
    exact .inl ⟨none, 0, h1, rfl⟩
  · subst e1
    refine TwRow.of_raw (by omega) (Array.getElem?_eq_some_iff.1 e3).1 fun j hj => ?_
    have g := flatT_get l j hj
    have h7 : cur.toList.take (l.length * 4) = l.flatMap encT := by simpa using e6.2
    rw [← h7, List.getElem?_take_of_lt hj, Array.getElem?_toList] at g
    rw [cellH e3, Nat.zero_add]
    exact g
theorem cell_four4 (w : World) (a b c d : Value) (t : TypeId) (j : Nat) (u : Value) (h : [a, b, c, d][j]? = some u) : (w.alloc (.cells #[a, b, c, d] t)).cell? ((⟨w.heap.size, 0, none⟩ : Addr).add j) = some u := by
  rw [addr_add, Nat.zero_add, World.cell?_alloc_new]
  simpa using h
theorem info_co5 : (Try.prog.info? 28).map (·.size) = some 5 := by kernel_rfl
theorem filt_next {T : List Tw} {P : Tw → Bool} {k : Nat} (hk : k < T.length) : (T.take (k + 1)).filter P = if P (T.getD k .nil) = true then (T.take k).filter P ++ [T.getD k .nil] else (T.take k).filter P := by
  rw [take_succ_getD hk, List.filter_append]
  by_cases h : P (T.getD k .nil) = true
  · rw [if_pos h, List.filter_cons, if_pos h, List.filter_nil]
  · rw [if_neg h, List.filter_cons, if_neg h, List.filter_nil, List.append_nil]
theorem co_end {w wr : World} {C0 : Array Value} {base n : Nat} {v : Value} {xs : List Value} (h0 : wr.heap[w.heap.size]? = some (Obj.cells C0 28 (0, 0))) (h1 : wr.heap[w.heap.size + 1]? = some (Obj.cells #[.int .i64 0, .int .i64 0, .slice none 0 0, .slice none 0 0, .slice none 0 0] 28 (0, 0))) (hb : Below w.heap.size w wr) (ho : wr.ownsRow base 48 4 v n xs) (u a b c d e : Value) :
    ((((((wr.setCell ⟨w.heap.size, 3, none⟩ u).setCell ⟨w.heap.size + 1, 0, none⟩ a).setCell ⟨w.heap.size + 1, 1, none⟩ b).setCell ⟨w.heap.size + 1, 2, none⟩ c).setCell ⟨w.heap.size + 1, 3, none⟩ d).setCell ⟨w.heap.size + 1, 4, none⟩ e).heap[w.heap.size + 1]? = some (Obj.cells #[a, b, c, d, e] 28 (0, 0)) ∧
    Below w.heap.size w ((((((wr.setCell ⟨w.heap.size, 3, none⟩ u).setCell ⟨w.heap.size + 1, 0, none⟩ a).setCell ⟨w.heap.size + 1, 1, none⟩ b).setCell ⟨w.heap.size + 1, 2, none⟩ c).setCell ⟨w.heap.size + 1, 3, none⟩ d).setCell ⟨w.heap.size + 1, 4, none⟩ e) ∧
    ((((((wr.setCell ⟨w.heap.size, 3, none⟩ u).setCell ⟨w.heap.size + 1, 0, none⟩ a).setCell ⟨w.heap.size + 1, 1, none⟩ b).setCell ⟨w.heap.size + 1, 2, none⟩ c).setCell ⟨w.heap.size + 1, 3, none⟩ d).setCell ⟨w.heap.size + 1, 4, none⟩ e).ownsRow base 48 4 v n xs := by
  have m1 := (heap_other wr w.heap.size 3 u _ (show w.heap.size + 1 ≠ w.heap.size by omega)).trans h1
  have m2 := heap_same m1 0 a
  have m3 := heap_same m2 1 b
  have m4 := heap_same m3 2 c
  have m5 := heap_same m4 3 d
  have m6 := heap_same m5 4 e
  have r1 := row_set ho h0 (by decide) 3 u
  have r2 := row_set r1 m1 (by decide) 0 a
  have r3 := row_set r2 m2 (by decide) 1 b
  have r4 := row_set r3 m3 (by decide) 2 c
  have r5 := row_set r4 m4 (by decide) 3 d
  have r6 := row_set r5 m5 (by decide) 4 e
  refine ⟨m6, ?_, r6⟩
  exact (((((hb.setCell (p := ⟨w.heap.size, 3, none⟩) (Nat.le_refl _) _).setCell (p := ⟨w.heap.size + 1, 0, none⟩) (Nat.le_succ _) _).setCell (p := ⟨w.heap.size + 1, 1, none⟩) (Nat.le_succ _) _).setCell (p := ⟨w.heap.size + 1, 2, none⟩) (Nat.le_succ _) _).setCell (p := ⟨w.heap.size + 1, 3, none⟩) (Nat.le_succ _) _).setCell (p := ⟨w.heap.size + 1, 4, none⟩) (Nat.le_succ _) _
set_option maxRecDepth 100000 in
set_option maxHeartbeats 8000000 in
theorem lwithout_any (wd hg : Int) (oa ha : Option Addr) (on oc hn hc : Nat) (tv : Value) (T : List Tw) (id : Int) (w : World) (ht : TwRow w tv T) (hl : T.length ≤ 100) :
    Calls Try.prog 12 #[coV wd hg (.slice oa on oc) tv (.slice ha hn hc), .int .i64 id] w fun e w' => ∃ a n c, e = .returned (coV wd hg (.slice oa on oc) (.slice a n c) (.slice ha hn hc)) ∧ Below w.heap.size w w' ∧ TwRow w' (.slice a n c) (T.filter fun t => t.id != id) := by
  obtain ⟨ta, tc, rfl, htc⟩ := ht.form
  have HTC := Lib.hid htc
  obtain ⟨i0, hi0, hz0, hz1, hz2⟩ := info_parts info_tw4
  have HA : Hid (∀ W', Below ((w.alloc (.cells #[.int .i64 wd, .int .i64 hg, .slice oa on oc, .slice ta T.length tc, .slice ha hn hc] 28)).alloc (.cells #[.int .i64 0, .int .i64 0, .slice none 0 0, .slice none 0 0, .slice none 0 0] 28)).heap.size ((w.alloc (.cells #[.int .i64 wd, .int .i64 hg, .slice oa on oc, .slice ta T.length tc, .slice ha hn hc] 28)).alloc (.cells #[.int .i64 0, .int .i64 0, .slice none 0 0, .slice none 0 0, .slice none 0 0] 28)) W' → W'.heap[w.heap.size]? = some (Obj.cells #[.int .i64 wd, .int .i64 hg, .slice oa on oc, .slice ta T.length tc, .slice ha hn hc] 28 (0, 0)) ∧ W'.heap[w.heap.size + 1]? = some (Obj.cells #[.int .i64 0, .int .i64 0, .slice none 0 0, .slice none 0 0, .slice none 0 0] 28 (0, 0)) ∧ Below w.heap.size w W') := Lib.hid (fun W' h => by
    obtain ⟨a, b, _, d⟩ := two_cells w _ _ _ _ h
    exact ⟨a, b, d⟩)
  have hs1 : ((w.alloc (.cells #[.int .i64 wd, .int .i64 hg, .slice oa on oc, .slice ta T.length tc, .slice ha hn hc] 28)).alloc (.cells #[.int .i64 0, .int .i64 0, .slice none 0 0, .slice none 0 0, .slice none 0 0] 28)).heap.size = w.heap.size + 2 := by simp
  obtain ⟨W1, hW1⟩ : ∃ X, (w.alloc (.cells #[.int .i64 wd, .int .i64 hg, .slice oa on oc, .slice ta T.length tc, .slice ha hn hc] 28)).alloc (.cells #[.int .i64 0, .int .i64 0, .slice none 0 0, .slice none 0 0, .slice none 0 0] 28) = X := ⟨_, rfl⟩
  rw [hW1] at HA hs1
  have HW1 := Lib.hid hW1
  have HS1 := Lib.hid hs1
  have HRD := HA
  clear hW1 hs1 HA ht htc
  unfold coV
  go_enter Try.func12, Try.ntmps12
  go_wp2_with fail
  rw [HW1.out]
  go_wp2_with fail
  go_loopw [5, 6] (fun v i wr => ∃ (k : Nat), k ≤ T.length ∧ i = .int .i64 k ∧ Hid (Below W1.heap.size W1 wr) ∧ Hid (wr.ownsRow W1.heap.size 48 4 v ((T.take k).filter fun t => t.id != id).length (((T.take k).filter fun t => t.id != id).flatMap encT))) (fun _ i _ => T.length - (intOf i).toNat)
  case atStart => exact ⟨0, Nat.zero_le _, rfl, Lib.hid (Below.refl _ _), Lib.hid (World.ownsRow_nil _ _ _ _)⟩
  case round =>
    obtain ⟨k, hk, rfl, hB, hO⟩ := hrel
    by_cases hkl : k < T.length
    · obtain ⟨tb, tf, rfl, htb, d0, d1, d2, d3⟩ := HTC.out k hkl
      have hki : (k : Int) < T.length := by omega
      have hk0 : (0 : Int) ≤ k := by omega
      obtain ⟨hr0, hr1, hbw⟩ := HRD.out wr hB.out
      have q0 := cellH hr0 0
      have q1 := cellH hr0 1
      have q2 := cellH hr0 2
      have q3 := cellH hr0 3
      have q4 := cellH hr0 4
      simp only [List.getElem?_toArray, List.getElem?_cons_zero, List.getElem?_cons_succ] at q0 q1 q2 q3 q4
      clear hr0 hr1 hbw
      have hbw := (HRD.out wr hB.out).2.2
      have e0 := (hbw.cell (p := ⟨tb, _, none⟩) htb).trans d0
      have e1 := (hbw.cell (p := ⟨tb, _, none⟩) htb).trans d1
      have e2 := (hbw.cell (p := ⟨tb, _, none⟩) htb).trans d2
      have e3 := (hbw.cell (p := ⟨tb, _, none⟩) htb).trans d3
      have HKK := Lib.hid (filt_next (P := fun t => t.id != id) hkl)
      have HLN : Hid (((T.take k).filter fun t => t.id != id).length ≤ 100) := Lib.hid (by
        have h1 := List.length_filter_le (fun t : Tw => t.id != id) (T.take k)
        have h2 := List.length_take_le k T
        omega)
      obtain ⟨K', hK'⟩ : ∃ l, (T.take (k + 1)).filter (fun t => t.id != id) = l := ⟨_, rfl⟩
      obtain ⟨dl, hdl⟩ : ∃ l, (T.take k).filter (fun t => t.id != id) = l := ⟨_, rfl⟩
      have HKP := Lib.hid hK'
      rw [hK', hdl] at HKK
      rw [hdl] at hO HLN
      obtain ⟨⟨ti, tx, ty, th⟩, htt⟩ : ∃ z, T.getD k .nil = z := ⟨_, rfl⟩
      rw [htt] at e0 e1 e2 e3 HKK
      simp only at e0 e1 e2 e3 HKK
      clear hK' hdl htt d0 d1 d2 d3 htb hbw
      obtain ⟨fb, hfb⟩ : ∃ b, (ti != id) = b := ⟨_, rfl⟩
      rw [hfb] at HKK
      cases fb
      · have HOX : Hid (wr.ownsRow W1.heap.size 48 4 u5 ((T.take (k + 1)).filter fun t => t.id != id).length (((T.take (k + 1)).filter fun t => t.id != id).flatMap encT)) := Lib.hid (by rw [HKP.out, HKK.out]; exact hO.out)
        clear HKP HKK HLN
        go_wp2_with fail
        go_roundw
        case rel => exact ⟨k + 1, by omega, by go_num, hB, HOX⟩
        case measure => simp [intOf]; omega
      · have hlen := HLN.out
        have h63 : dl.length + 1 ≤ maxLen := by unfold maxLen; omega
        have hby : (dl.length + 1) * 32 ≤ 140737488355328 := by omega
        have hbase : W1.heap.size ≤ wr.heap.size := hB.out.size
        have hO6 := hO.out
        clear hlen
        go_wp2_with (at_builtin; refine wpList_append_own _ rfl _ _ 25 rfl W1.heap.size 48 i0 (.agg #[.int .i64 0, .int .i64 0, .int .i64 0, .int .i64 0]) 4 32 Try.underlying25 hi0 hz0 hz1 hz2 rfl (by decide) _ _ _ rfl (World.ownsRow.alloc hO6 _) ⟨wr.heap.size, 0, none⟩ 1 1 [.int .i64 ti, .int .i64 tx, .int .i64 ty, .int .i64 th] rfl rfl (fun j u h => cell_four4 _ _ _ _ _ _ j u h) (by simp [Value.oneCell']) h63 hby (by simp; omega) ?_; intro v' w8 hown' hgrow _)
        have HBX : Hid (Below W1.heap.size W1 w8) := Lib.hid ((hB.out.alloc hbase _).grown hgrow (by simp; omega) (fun j e => (World.ownsRow.lt hO6 j e).1))
        have HOX : Hid (w8.ownsRow W1.heap.size 48 4 v' ((T.take (k + 1)).filter fun t => t.id != id).length (((T.take (k + 1)).filter fun t => t.id != id).flatMap encT)) := Lib.hid (by
          rw [HKP.out, (show K' = dl ++ [⟨ti, tx, ty, th⟩] by rw [HKK.out]; simp), List.length_append, List.flatMap_append]; simpa [encT] using hown')
        clear hown' hgrow hO6 q0 q1 q2 q3 q4 e0 e1 e2 e3 HKP HKK hO hB
        go_wp2_with fail
        go_roundw
        case rel => exact ⟨k + 1, by omega, by go_num, HBX, HOX⟩
        case measure => simp [intOf]; omega
    · obtain rfl : k = T.length := by omega
      rw [List.take_length] at hO
      have HB2 : Hid (Below W1.heap.size W1 wr) := hB
      have HOW := hO
      obtain ⟨va, vc, rfl⟩ := row_form HOW.out
      obtain ⟨hr0, hr1, hbw⟩ := HRD.out wr HB2.out
      have HR0 := Lib.hid hr0
      have HR1 := Lib.hid hr1
      have HBW := Lib.hid hbw
      have q0 := cellH hr0 0
      have q1 := cellH hr0 1
      have q2 := cellH hr0 2
      have q3 := cellH hr0 3
      have q4 := cellH hr0 4
      have qf := freeH hr0
      have r0 := cellH hr1 0
      have r1 := cellH hr1 1
      have r2 := cellH hr1 2
      have r3 := cellH hr1 3
      have r4 := cellH hr1 4
      have rf := freeH hr1
      simp only [List.getElem?_toArray, List.getElem?_cons_zero, List.getElem?_cons_succ] at q0 q1 q2 q3 q4 r0 r1 r2 r3 r4
      clear hr0 hr1 hbw
      go_wp2_with fail
      obtain ⟨c1, c2, c3⟩ := co_end HR0.out HR1.out HBW.out HOW.out (.slice va (T.filter fun t => t.id != id).length vc) (.int .i64 wd) (.int .i64 hg) (.slice oa on oc) (.slice va (T.filter fun t => t.id != id).length vc) (.slice ha hn hc)
      refine bodyPost_ret (results_cell_row Try.results12 _ _ (w.heap.size + 1) 28 #[.int .i64 wd, .int .i64 hg, .slice oa on oc, .slice va (T.filter fun t => t.id != id).length vc, .slice ha hn hc] (0, 0) _ rfl c1 Try.underlying28 rfl info_co5) rfl ?_
      exact ⟨_, _, _, rfl, c2, TwRow.of_own c3⟩
theorem nd_take {R : List Int} (h : R.Pairwise (· < ·)) {k : Nat} (hk : k < R.length) : R.getD k 0 ∉ R.take k := by
  intro hm
  obtain ⟨j, hj, he⟩ := List.getElem_of_mem hm
  rw [List.length_take] at hj
  rw [List.getElem_take] at he
  have h1 := List.pairwise_iff_getElem.1 h j k (by omega) hk (by omega)
  rw [List.getD_eq_getElem?_getD, List.getElem?_eq_getElem hk, Option.getD_some] at he
  omega
/-- What the inner loop has gathered. -/
def onW (R : List Int) (p : List Tw) (t : Tw) (k : Nat) : List Tw := if t.id ∈ R.take k then p ++ [t] else p
theorem onW_next {R : List Int} {p : List Tw} {t : Tw} {k : Nat} (h : R.Pairwise (· < ·)) (hk : k < R.length) : onW R p t (k + 1) = if (R.getD k 0 == t.id) = true then onW R p t k ++ [t] else onW R p t k := by
  have hs : R.take (k + 1) = R.take k ++ [R.getD k 0] := by rw [List.take_add_one, List.getD_eq_getElem?_getD, List.getElem?_eq_getElem hk]; rfl
  have hn := nd_take h hk
  unfold onW
  rw [hs]
  simp only [List.mem_append, List.mem_singleton, beq_iff_eq]
  by_cases e : R.getD k 0 = t.id
  · rw [if_pos e, if_pos (.inr e.symm), if_neg (by rw [← e]; exact hn)]
  · rw [if_neg e]
    by_cases e2 : t.id ∈ R.take k
    · rw [if_pos (.inl e2), if_pos e2]
    · rw [if_neg e2, if_neg (by rintro (h | h); exact e2 h; exact e h.symm)]
theorem onW_len {R : List Int} {p : List Tw} {t : Tw} {k : Nat} : (onW R p t k).length ≤ p.length + 1 := by
  unfold onW; split <;> simp
theorem onW_all {R : List Int} {T : List Tw} {k : Nat} (hk : k < T.length) : (T.take (k + 1)).filter (fun t => decide (t.id ∈ R)) = onW R ((T.take k).filter fun t => decide (t.id ∈ R)) (T.getD k .nil) R.length := by
  rw [filt_next hk]
  unfold onW
  rw [List.take_length]
  simp only [decide_eq_true_eq]
set_option maxRecDepth 100000 in
set_option maxHeartbeats 8000000 in
theorem lonly_any (wd hg : Int) (oa ha : Option Addr) (on oc hn hc : Nat) (tv rv : Value) (T : List Tw) (R : List Int) (w : World) (ht : TwRow w tv T) (hl : T.length ≤ 100) (hr : INRow w rv R) (hrl : R.length ≤ 1000) (hrs : R.Pairwise (· < ·)) :
    Calls Try.prog 14 #[coV wd hg (.slice oa on oc) tv (.slice ha hn hc), rv] w fun e w' => ∃ a n c, e = .returned (coV wd hg (.slice oa on oc) (.slice a n c) (.slice ha hn hc)) ∧ Below w.heap.size w w' ∧ TwRow w' (.slice a n c) (T.filter fun t => decide (t.id ∈ R)) := by
  obtain ⟨ra, rc, rfl, hrc⟩ := hr.form
  have HRC := Lib.hid hrc
  have HRS := Lib.hid hrs
  clear hrc hrs hr
  obtain ⟨ta, tc, rfl, htc⟩ := ht.form
  have HTC := Lib.hid htc
  obtain ⟨i0, hi0, hz0, hz1, hz2⟩ := info_parts info_tw4
  have HA : Hid (∀ W', Below ((w.alloc (.cells #[.int .i64 wd, .int .i64 hg, .slice oa on oc, .slice ta T.length tc, .slice ha hn hc] 28)).alloc (.cells #[.int .i64 0, .int .i64 0, .slice none 0 0, .slice none 0 0, .slice none 0 0] 28)).heap.size ((w.alloc (.cells #[.int .i64 wd, .int .i64 hg, .slice oa on oc, .slice ta T.length tc, .slice ha hn hc] 28)).alloc (.cells #[.int .i64 0, .int .i64 0, .slice none 0 0, .slice none 0 0, .slice none 0 0] 28)) W' → W'.heap[w.heap.size]? = some (Obj.cells #[.int .i64 wd, .int .i64 hg, .slice oa on oc, .slice ta T.length tc, .slice ha hn hc] 28 (0, 0)) ∧ W'.heap[w.heap.size + 1]? = some (Obj.cells #[.int .i64 0, .int .i64 0, .slice none 0 0, .slice none 0 0, .slice none 0 0] 28 (0, 0)) ∧ Below w.heap.size w W') := Lib.hid (fun W' h => by
    obtain ⟨a, b, _, d⟩ := two_cells w _ _ _ _ h
    exact ⟨a, b, d⟩)
  have hs1 : ((w.alloc (.cells #[.int .i64 wd, .int .i64 hg, .slice oa on oc, .slice ta T.length tc, .slice ha hn hc] 28)).alloc (.cells #[.int .i64 0, .int .i64 0, .slice none 0 0, .slice none 0 0, .slice none 0 0] 28)).heap.size = w.heap.size + 2 := by simp
  obtain ⟨W1, hW1⟩ : ∃ X, (w.alloc (.cells #[.int .i64 wd, .int .i64 hg, .slice oa on oc, .slice ta T.length tc, .slice ha hn hc] 28)).alloc (.cells #[.int .i64 0, .int .i64 0, .slice none 0 0, .slice none 0 0, .slice none 0 0] 28) = X := ⟨_, rfl⟩
  rw [hW1] at HA hs1
  have HW1 := Lib.hid hW1
  have HS1 := Lib.hid hs1
  have HRD := HA
  clear hW1 hs1 HA ht htc
  unfold coV
  go_enter Try.func14, Try.ntmps14
  go_wp2_with fail
  rw [HW1.out]
  go_wp2_with fail
  go_loopw [5, 6] (fun v i wr => ∃ (k : Nat), k ≤ T.length ∧ i = .int .i64 k ∧ Hid (Below W1.heap.size W1 wr) ∧ Hid (wr.ownsRow W1.heap.size 48 4 v ((T.take k).filter fun t => decide (t.id ∈ R)).length (((T.take k).filter fun t => decide (t.id ∈ R)).flatMap encT))) (fun _ i _ => T.length - (intOf i).toNat)
  case atStart => exact ⟨0, Nat.zero_le _, rfl, Lib.hid (Below.refl _ _), Lib.hid (World.ownsRow_nil _ _ _ _)⟩
  case round =>
    obtain ⟨k, hk, rfl, hB, hO⟩ := hrel
    by_cases hkl : k < T.length
    · obtain ⟨tb, tf, rfl, htb, d0, d1, d2, d3⟩ := HTC.out k hkl
      have hki : (k : Int) < T.length := by omega
      have hk0 : (0 : Int) ≤ k := by omega
      obtain ⟨hr0, hr1, hbw⟩ := HRD.out wr hB.out
      have q0 := cellH hr0 0
      have q1 := cellH hr0 1
      have q2 := cellH hr0 2
      have q3 := cellH hr0 3
      have q4 := cellH hr0 4
      simp only [List.getElem?_toArray, List.getElem?_cons_zero, List.getElem?_cons_succ] at q0 q1 q2 q3 q4
      clear hr0 hr1 hbw
      have HKK := Lib.hid (onW_all (R := R) hkl)
      have HLN : Hid (((T.take k).filter fun t => decide (t.id ∈ R)).length ≤ 100) := Lib.hid (by
        have h1 := List.length_filter_le (fun t : Tw => decide (t.id ∈ R)) (T.take k)
        have h2 := List.length_take_le k T
        omega)
      obtain ⟨p, hp⟩ : ∃ l, (T.take k).filter (fun t => decide (t.id ∈ R)) = l := ⟨_, rfl⟩
      rw [hp] at HKK hO HLN
      obtain ⟨⟨ti, tx, ty, th⟩, htt⟩ : ∃ z, T.getD k .nil = z := ⟨_, rfl⟩
      rw [htt] at d0 d1 d2 d3 HKK
      simp only at d0 d1 d2 d3
      have HTI : Hid (∀ W', Below w.heap.size w W' → W'.cell? ⟨tb, tf + k * 4, none⟩ = some (.int .i64 ti) ∧ W'.cell? ⟨tb, tf + k * 4 + 1, none⟩ = some (.int .i64 tx) ∧ W'.cell? ⟨tb, tf + k * 4 + 2, none⟩ = some (.int .i64 ty) ∧ W'.cell? ⟨tb, tf + k * 4 + 3, none⟩ = some (.int .i64 th)) := Lib.hid (fun W' h => ⟨(h.cell (p := ⟨tb, _, none⟩) htb).trans d0, (h.cell (p := ⟨tb, _, none⟩) htb).trans d1, (h.cell (p := ⟨tb, _, none⟩) htb).trans d2, (h.cell (p := ⟨tb, _, none⟩) htb).trans d3⟩)
      clear hp htt d0 d1 d2 d3 htb
      obtain ⟨t, ht⟩ : ∃ t : Tw, (⟨ti, tx, ty, th⟩ : Tw) = t := ⟨_, rfl⟩
      have HT := Lib.hid ht
      rw [ht] at HKK
      obtain ⟨Wo, hWo⟩ : ∃ X, X = wr := ⟨_, rfl⟩
      subst hWo
      clear ht
      go_wp2_with fail
      go_loopw [5, 7] (fun v i wr => ∃ (j : Nat), j ≤ R.length ∧ i = .int .i64 j ∧ Hid (Below W1.heap.size W1 wr) ∧ Hid (wr.ownsRow W1.heap.size 48 4 v (onW R p t j).length ((onW R p t j).flatMap encT))) (fun _ i _ => R.length - (intOf i).toNat)
      case atStart => exact ⟨0, Nat.zero_le _, rfl, hB, Lib.hid (by simpa [onW] using hO.out)⟩
      case round =>
        clear hB hO q0 q1 q2 q3 q4
        obtain ⟨j, hj, rfl, hB, hO⟩ := hrel
        by_cases hjl : j < R.length
        · obtain ⟨rb, rf, rfl, hrb, c0⟩ := HRC.out j hjl
          have hji : (j : Int) < R.length := by omega
          have hj0 : (0 : Int) ≤ j := by omega
          obtain ⟨hr0, hr1, hbw⟩ := HRD.out wr hB.out
          have q0 := cellH hr0 0
          have q1 := cellH hr0 1
          have q2 := cellH hr0 2
          have q3 := cellH hr0 3
          have q4 := cellH hr0 4
          simp only [List.getElem?_toArray, List.getElem?_cons_zero, List.getElem?_cons_succ] at q0 q1 q2 q3 q4
          clear hr0 hr1 hbw
          have hbw := (HRD.out wr hB.out).2.2
          have f0 := (hbw.cell (p := ⟨rb, _, none⟩) hrb).trans c0
          obtain ⟨e0, e1, e2, e3⟩ := HTI.out wr hbw
          have HNX := Lib.hid (onW_next (p := p) (t := t) HRS.out hjl)
          have HL2 : Hid ((onW R p t j).length ≤ 101) := Lib.hid (by have h1 := onW_len (R := R) (p := p) (t := t) (k := j); have h2 := HLN.out; omega)
          obtain ⟨K', hK'⟩ : ∃ l, onW R p t (j + 1) = l := ⟨_, rfl⟩
          obtain ⟨dl, hdl⟩ : ∃ l, onW R p t j = l := ⟨_, rfl⟩
          have HKP := Lib.hid hK'
          rw [hK', hdl] at HNX
          rw [hdl] at hO HL2
          obtain ⟨x, hx⟩ : ∃ x, R.getD j 0 = x := ⟨_, rfl⟩
          rw [hx] at f0 HNX
          have htid : t.id = ti := by rw [← HT.out]
          rw [htid] at HNX
          obtain ⟨fb, hfb⟩ : ∃ b, (x == ti) = b := ⟨_, rfl⟩
          rw [hfb] at HNX
          clear hK' hdl c0 hrb hx htid hbw
          cases fb
          · have HOX : Hid (wr.ownsRow W1.heap.size 48 4 u5 (onW R p t (j + 1)).length ((onW R p t (j + 1)).flatMap encT)) := Lib.hid (by rw [HKP.out, HNX.out]; exact hO.out)
            clear HKP HNX HL2
            go_wp2_with fail
            go_quiet (fail)
            go_wp2_with fail
            go_roundw
            case rel => exact ⟨j + 1, by omega, by go_num, Lib.hid (below_drewN hB.out _), Lib.hid (own_below HOX.out (below_drewN (Below.refl _ wr) _))⟩
            case measure => simp [intOf]; omega
          · have hlen := HL2.out
            have h63 : dl.length + 1 ≤ maxLen := by unfold maxLen; omega
            have hby : (dl.length + 1) * 32 ≤ 140737488355328 := by omega
            go_wp2_with fail
            go_quiet (fail)
            have hBQ := below_drewN hB.out nq
            have hO6 := own_below hO.out (below_drewN (Below.refl _ wr) nq)
            obtain ⟨wq, hwq⟩ : ∃ x, wr.drewN nq = x := ⟨_, rfl⟩
            rw [hwq] at hBQ hO6 ⊢
            have HBQ := Lib.hid hBQ
            clear hwq q0 q1 q2 q3 q4 e0 e1 e2 e3 f0 hB hO
            obtain ⟨hr0, hr1, hbw⟩ := HRD.out wq HBQ.out
            have q0 := cellH hr0 0
            have q1 := cellH hr0 1
            have q2 := cellH hr0 2
            have q3 := cellH hr0 3
            have q4 := cellH hr0 4
            simp only [List.getElem?_toArray, List.getElem?_cons_zero, List.getElem?_cons_succ] at q0 q1 q2 q3 q4
            clear hr0 hr1 hbw
            have hbw := (HRD.out wq HBQ.out).2.2
            obtain ⟨e0, e1, e2, e3⟩ := HTI.out wq hbw
            have hbase : W1.heap.size ≤ wq.heap.size := hBQ.size
            clear hbw hlen
            go_wp2_with (at_builtin; refine wpList_append_own _ rfl _ _ 25 rfl W1.heap.size 48 i0 (.agg #[.int .i64 0, .int .i64 0, .int .i64 0, .int .i64 0]) 4 32 Try.underlying25 hi0 hz0 hz1 hz2 rfl (by decide) _ _ _ rfl (World.ownsRow.alloc hO6 _) ⟨wq.heap.size, 0, none⟩ 1 1 [.int .i64 ti, .int .i64 tx, .int .i64 ty, .int .i64 th] rfl rfl (fun j u h => cell_four4 _ _ _ _ _ _ j u h) (by simp [Value.oneCell']) h63 hby (by simp; omega) ?_; intro v' w8 hown' hgrow _)
            have HBX : Hid (Below W1.heap.size W1 w8) := Lib.hid ((hBQ.alloc hbase _).grown hgrow (by simp; omega) (fun j e => (World.ownsRow.lt hO6 j e).1))
            have HOX : Hid (w8.ownsRow W1.heap.size 48 4 v' (onW R p t (j + 1)).length ((onW R p t (j + 1)).flatMap encT)) := Lib.hid (by
              rw [HKP.out, (show K' = dl ++ [t] by rw [HNX.out]; simp), ← HT.out, List.length_append, List.flatMap_append]; simpa [encT] using hown')
            clear hown' hgrow hO6 q0 q1 q2 q3 q4 e0 e1 e2 e3 HKP HNX hBQ
            go_wp2_with fail
            go_roundw
            case rel => exact ⟨j + 1, by omega, by go_num, HBX, HOX⟩
            case measure => simp [intOf]; omega
        · obtain rfl : j = R.length := by omega
          have HOX : Hid (wr.ownsRow W1.heap.size 48 4 u5 ((T.take (k + 1)).filter fun t => decide (t.id ∈ R)).length (((T.take (k + 1)).filter fun t => decide (t.id ∈ R)).flatMap encT)) := Lib.hid (by rw [HKK.out]; exact hO.out)
          clear HKK hO
          go_wp2_with fail
          go_roundw
          case rel => exact ⟨k + 1, by omega, by go_num, hB, HOX⟩
          case measure => simp [intOf]; omega
    · obtain rfl : k = T.length := by omega
      rw [List.take_length] at hO
      have HB2 : Hid (Below W1.heap.size W1 wr) := hB
      have HOW := hO
      obtain ⟨va, vc, rfl⟩ := row_form HOW.out
      obtain ⟨hr0, hr1, hbw⟩ := HRD.out wr HB2.out
      have HR0 := Lib.hid hr0
      have HR1 := Lib.hid hr1
      have HBW := Lib.hid hbw
      have q0 := cellH hr0 0
      have q1 := cellH hr0 1
      have q2 := cellH hr0 2
      have q3 := cellH hr0 3
      have q4 := cellH hr0 4
      have qf := freeH hr0
      have r0 := cellH hr1 0
      have r1 := cellH hr1 1
      have r2 := cellH hr1 2
      have r3 := cellH hr1 3
      have r4 := cellH hr1 4
      have rf := freeH hr1
      simp only [List.getElem?_toArray, List.getElem?_cons_zero, List.getElem?_cons_succ] at q0 q1 q2 q3 q4 r0 r1 r2 r3 r4
      clear hr0 hr1 hbw
      go_wp2_with fail
      obtain ⟨c1, c2, c3⟩ := co_end HR0.out HR1.out HBW.out HOW.out (.slice va (T.filter fun t => decide (t.id ∈ R)).length vc) (.int .i64 wd) (.int .i64 hg) (.slice oa on oc) (.slice va (T.filter fun t => decide (t.id ∈ R)).length vc) (.slice ha hn hc)
      refine bodyPost_ret (results_cell_row Try.results14 _ _ (w.heap.size + 1) 28 #[.int .i64 wd, .int .i64 hg, .slice oa on oc, .slice va (T.filter fun t => decide (t.id ∈ R)).length vc, .slice ha hn hc] (0, 0) _ rfl c1 Try.underlying28 rfl info_co5) rfl ?_
      exact ⟨_, _, _, rfl, c2, TwRow.of_own c3⟩
end Go.Proofs.Ytnacgogcbbpjmaa
