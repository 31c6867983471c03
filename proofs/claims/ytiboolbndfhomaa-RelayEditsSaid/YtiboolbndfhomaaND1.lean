/- few of package firetowerlaw02; numbers that are Earliest's and Latest's, by computing. -/
import Derived.Test.YtiboolbndfhomaaNC4
import Derived.Test.YtiboolbndfhomaaNC6
import Derived.Test.YtiboolbndfhomaaNB7
import Derived.Test.YtiboolbndfhomaaNC1
set_option linter.unusedVariables false
set_option linter.unusedSimpArgs false
namespace Go.Proofs.Ytiboolbndfhomaa
open Go.RowKit

def opB (k : Lk) : Bool := decide (k.op.length ≤ 20)
/-- At most 12 links, or too many, with at most 20 spans each. -/
def fewB (ls : List Lk) : Bool := decide (40 < ls.length) || (ls.all opB && decide (ls.length ≤ 12))
theorem fewB_ok {ls : List Lk} (h : fewB ls = true) : 40 < ls.length ∨ (ls.length ≤ 12 ∧ ∀ k ∈ ls, k.op.length ≤ 20) := by
  unfold fewB at h
  simp only [Bool.or_eq_true, Bool.and_eq_true, decide_eq_true_eq, List.all_eq_true] at h
  rcases h with h | ⟨h1, h2⟩
  · exact .inl h
  · exact .inr ⟨h2, fun k hk => by have := h1 k hk; unfold opB at this; simpa using this⟩

set_option maxRecDepth 100000 in
set_option maxHeartbeats 2000000 in
theorem few_any (st : Int) (o : Value) (ls : List Lk) (w : World) (hv : NRow w o ls) :
    Calls Try.prog 10 #[ntV st o] w fun e w' => e = .returned (.bool (fewB ls)) ∧ Below w.heap.size w w' := by
  obtain ⟨a, cap, rfl, hc⟩ := hv.row.form
  have HC := Lib.hid hc
  have HL := Lib.hid hv.op
  have hll := hv.len
  have HB0 := Lib.hid ((Below.refl _ w).alloc (Nat.le_refl w.heap.size) (.cells #[.int .i64 st, .slice a ls.length cap] 24))
  have HNc := Lib.hid (fun W => net_cells w st (.slice a ls.length cap) (W := W))
  clear hc hv
  unfold ntV
  by_cases h3 : 40 < ls.length
  · have HV : Hid (fewB ls = true) := Lib.hid (by unfold fewB; rw [decide_eq_true h3]; rfl)
    have g3 : (40 : Int) < ls.length := by omega
    go_enter Try.func10, Try.ntmps10
    go_wp2_with fail
    go_ret
    exact ⟨ret_bool' HV.out.symm, HB0.out⟩
  have g3 : ¬ (40 : Int) < ls.length := by omega
  have HV : Hid (fewB ls = (ls.all opB && decide (ls.length ≤ 12))) := Lib.hid (by unfold fewB; rw [decide_eq_false h3]; rfl)
  clear h3
  go_enter Try.func10, Try.ntmps10
  go_wp2_with fail
  go_loopw [3] (fun i wr => ∃ (k : Nat), k ≤ ls.length ∧ i = .int .i64 k ∧ Hid (ls.all opB = (ls.drop k).all opB) ∧ Hid (Below (w.alloc (.cells #[.int .i64 st, .slice a ls.length cap] 24)).heap.size (w.alloc (.cells #[.int .i64 st, .slice a ls.length cap] 24)) wr)) (fun i _ => ls.length - (intOf i).toNat)
  case atStart => exact ⟨0, Nat.zero_le _, rfl, Lib.hid rfl, Lib.hid (Below.refl _ _)⟩
  case round =>
    obtain ⟨k, hk, rfl, hT, hB1⟩ := hrel
    obtain ⟨s0, s1, hsz, hB⟩ := HNc.out wr hB1.out
    have HB := Lib.hid hB
    by_cases hkl : k < ls.length
    · obtain ⟨b, off, rfl, hb, c0, c1, c2, ov, c3, hsp⟩ := HC.out k hkl
      have hki : (k : Int) < ls.length := by omega
      have hk0 : (0 : Int) ≤ k := by omega
      have e3 := (hB.cell (p := ⟨b, _, none⟩) hb).trans c3
      have hD : Hid ((ls.drop k).all opB = (opB (ls.getD k .nil) && (ls.drop (k + 1)).all opB)) := Lib.hid (by rw [ldrop_at hkl]; rfl)
      have hlo := HL.out _ (lk_mem hkl)
      have hsp1 := hsp.keep hB
      obtain ⟨x, hx⟩ : ∃ x, ls.getD k .nil = x := ⟨_, rfl⟩
      rw [hx] at hD hlo hsp1
      obtain ⟨oa, ocap, rfl, _⟩ := hsp1.form
      clear c0 c1 c2 c3 hb hx hsp hsp1 hB
      by_cases h1 : x.op.length ≤ 20
      · have HN : Hid (ls.all opB = (ls.drop (k + 1)).all opB) := Lib.hid (by rw [hT.out, hD.out]; unfold opB; rw [decide_eq_true h1]; rfl)
        have g1 : ¬ (20 : Int) < x.op.length := by omega
        clear hD
        go_wp2_with fail
        go_roundw
        case rel => exact ⟨k + 1, by omega, by go_num, HN, hB1⟩
        case measure => simp [intOf]; omega
      · have HN : Hid (fewB ls = false) := Lib.hid (by rw [HV.out, hT.out, hD.out]; unfold opB; rw [decide_eq_false h1]; rfl)
        have g1 : (20 : Int) < x.op.length := by omega
        clear hD
        go_wp2_with fail
        go_ret
        exact ⟨ret_bool' HN.out.symm, HB.out⟩
    · obtain rfl : k = ls.length := by omega
      have HN : Hid (fewB ls = decide (ls.length ≤ 12)) := Lib.hid (by rw [HV.out, hT.out, List.drop_length]; rfl)
      have HD : Hid (decide (ls.length ≤ 12) = decide ((ls.length : Int) ≤ 12)) := Lib.hid (by
        by_cases h : ls.length ≤ 12
        · rw [decide_eq_true h, decide_eq_true (by omega)]
        · rw [decide_eq_false h, decide_eq_false (by omega)])
      go_wp2_with fail
      go_ret
      exact ⟨ret_bool' (by rw [HN.out, HD.out]), HB.out⟩

/-- Minutes and hops that are those of a word, by computing. -/
def goodB (st : Nat) (ls : List Lk) (a : Nat) (t : Int) (at' : List Int) (by' : List Sp) : Bool :=
  decide (at'.length = st) && decide (by'.length = st) && decide (a < st) && decide (0 ≤ t) && decide (t ≤ 1048576) && decide (at0 at' a = t) &&
    (List.range st).all fun s => decide (-1 ≤ at0 at' s) && decide (at0 at' s ≤ 1048576) && (decide (s = a) || decide (at0 at' s < 0) ||
      (decide (0 ≤ (by'.getD s (0, 0)).1) && decide ((by'.getD s (0, 0)).1.toNat < ls.length) && decide (toN ls (by'.getD s (0, 0)).1.toNat = s) && decide (frN ls (by'.getD s (0, 0)).1.toNat < st) && decide (0 ≤ at0 at' (frN ls (by'.getD s (0, 0)).1.toNat)) &&
        decide (leaveO (lkA ls (by'.getD s (0, 0)).1.toNat) (at0 at' (frN ls (by'.getD s (0, 0)).1.toNat)) = some (by'.getD s (0, 0)).2) && decide (at0 at' s = (by'.getD s (0, 0)).2 + (lkA ls (by'.getD s (0, 0)).1.toNat).dl)))
theorem good_inv {st : Nat} {ls : List Lk} {a : Nat} {t : Int} {at' : List Int} {by' : List Sp} (h : goodB st ls a t at' by' = true) : Inv st ls a t at' by' := by
  unfold goodB at h
  simp only [Bool.and_eq_true, Bool.or_eq_true, decide_eq_true_eq, List.all_eq_true, List.mem_range] at h
  obtain ⟨⟨⟨⟨⟨⟨h1, h2⟩, h3⟩, h4⟩, h4'⟩, h5⟩, h6⟩ := h
  have key : ∀ s, s < st → s ≠ a → 0 ≤ at0 at' s → ∃ i : Nat, i < ls.length ∧ (by'.getD s (0, 0)).1 = (i : Int) ∧ toN ls i = s ∧ frN ls i < st ∧ 0 ≤ at0 at' (frN ls i) ∧ leaveO (lkA ls i) (at0 at' (frN ls i)) = some (by'.getD s (0, 0)).2 ∧ at0 at' s = (by'.getD s (0, 0)).2 + (lkA ls i).dl := by
    intro s hs hsa h0
    obtain ⟨_, h⟩ := h6 s hs
    rcases h with (h | h) | ⟨⟨⟨⟨⟨⟨q1, q2⟩, q3⟩, q4⟩, q5⟩, q6⟩, q7⟩
    · exact absurd h hsa
    · omega
    · exact ⟨_, q2, by omega, q3, q4, q5, q6, q7⟩
  have wk : ∀ n : Nat, ∀ s, s < st → 0 ≤ at0 at' s → (at0 at' s).toNat ≤ n → Walk ls a t s (at0 at' s) := by
    intro n
    induction n with
    | zero =>
      intro s hs h0 hn
      by_cases hsa : s = a
      · subst hsa; rw [h5]; exact .start
      · obtain ⟨i, q1, q2, q3, q4, q5, q6, q7⟩ := key s hs hsa h0
        have := leaveO_bd q6
        omega
    | succ n ih =>
      intro s hs h0 hn
      by_cases hsa : s = a
      · subst hsa; rw [h5]; exact .start
      · obtain ⟨i, q1, q2, q3, q4, q5, q6, q7⟩ := key s hs hsa h0
        have hb := leaveO_bd q6
        have := Walk.step i q1 (ih (frN ls i) q4 q5 (by omega)) q6
        rw [q3, ← q7] at this
        exact this
  exact ⟨h1, h2, h3, fun s hs => (h6 s hs).1, by omega, fun s hs h0 => wk _ s hs h0 (Nat.le_refl _), fun s hs hsa h0 => by
    obtain ⟨i, q1, q2, q3, q4, q5, q6, q7⟩ := key s hs hsa h0
    exact ⟨i, _, q1, q2, q3, q5, Int.le_refl _, q6, q7⟩⟩
def shutB (ls : List Lk) (at' : List Int) : Bool := (List.range ls.length).all fun i => decide (at0 at' (frN ls i) < 0) || match leaveO (lkA ls i) (at0 at' (frN ls i)) with
  | none => true
  | some d => decide (0 ≤ at0 at' (toN ls i)) && decide (at0 at' (toN ls i) ≤ d + (lkA ls i).dl)
theorem shutB_ok {ls : List Lk} {at' : List Int} (h : shutB ls at' = true) : Shut ls at' := by
  unfold shutB at h
  simp only [List.all_eq_true, List.mem_range, Bool.or_eq_true, decide_eq_true_eq] at h
  intro i hi h0 d hd
  rcases h i hi with h | h
  · omega
  · rw [hd] at h
    simp only [Bool.and_eq_true, decide_eq_true_eq] at h
    exact h
/-- Latest's, by computing; each station's link that it is left by. -/
def goodLB (st : Nat) (ls : List Lk) (b : Nat) (t : Int) (at' : List Int) (by' : List Nat) : Bool :=
  decide (at'.length = st) && decide (b < st) && decide (0 ≤ t) && decide (t ≤ 1048576) && decide (at0 at' b = t) &&
    (List.range st).all fun s => decide (-1 ≤ at0 at' s) && decide (at0 at' s ≤ 1048576) && (decide (s = b) || decide (at0 at' s < 0) ||
      (decide (by'.getD s 0 < ls.length) && decide (frN ls (by'.getD s 0) = s) && decide (toN ls (by'.getD s 0) < st) && decide (0 ≤ at0 at' (toN ls (by'.getD s 0))) &&
        decide (lastO (lkA ls (by'.getD s 0)) (at0 at' (toN ls (by'.getD s 0))) = some (at0 at' s))))
theorem goodL_inv {st : Nat} {ls : List Lk} {b : Nat} {t : Int} {at' : List Int} {by' : List Nat} (h : goodLB st ls b t at' by' = true) : InvL st ls b t at' := by
  unfold goodLB at h
  simp only [Bool.and_eq_true, Bool.or_eq_true, decide_eq_true_eq, List.all_eq_true, List.mem_range] at h
  obtain ⟨⟨⟨⟨⟨h1, h3⟩, h4⟩, h4'⟩, h5⟩, h6⟩ := h
  have key : ∀ s, s < st → s ≠ b → 0 ≤ at0 at' s → ∃ i : Nat, i < ls.length ∧ frN ls i = s ∧ toN ls i < st ∧ 0 ≤ at0 at' (toN ls i) ∧ lastO (lkA ls i) (at0 at' (toN ls i)) = some (at0 at' s) := by
    intro s hs hsa h0
    obtain ⟨_, h⟩ := h6 s hs
    rcases h with (h | h) | ⟨⟨⟨⟨q1, q2⟩, q3⟩, q4⟩, q5⟩
    · exact absurd h hsa
    · omega
    · exact ⟨_, q1, q2, q3, q4, q5⟩
  have wk : ∀ n : Nat, ∀ s, s < st → 0 ≤ at0 at' s → (1048576 - at0 at' s).toNat ≤ n → Back ls b t s (at0 at' s) := by
    intro n
    induction n with
    | zero =>
      intro s hs h0 hn
      by_cases hsa : s = b
      · subst hsa; rw [h5]; exact .start
      · obtain ⟨i, q1, q2, q3, q4, q5⟩ := key s hs hsa h0
        have := lastO_bd q5
        have := h6 _ q3
        omega
    | succ n ih =>
      intro s hs h0 hn
      by_cases hsa : s = b
      · subst hsa; rw [h5]; exact .start
      · obtain ⟨i, q1, q2, q3, q4, q5⟩ := key s hs hsa h0
        have hb := lastO_bd q5
        have hb2 := h6 _ q3
        have := Back.step i q1 (ih (toN ls i) q3 q4 (by omega)) q5
        rw [q2] at this
        exact this
  exact ⟨h1, h3, fun s hs => (h6 s hs).1, by omega, fun s hs h0 => wk _ s hs h0 (Nat.le_refl _)⟩
def shutLB (ls : List Lk) (at' : List Int) : Bool := (List.range ls.length).all fun i => match lastO (lkA ls i) (at0 at' (toN ls i)) with
  | none => true
  | some d => decide (d ≤ at0 at' (frN ls i))
theorem shutLB_ok {ls : List Lk} {at' : List Int} (h : shutLB ls at' = true) : ShutL ls at' := by
  unfold shutLB at h
  simp only [List.all_eq_true, List.mem_range] at h
  intro i hi d hd
  have := h i hi
  rw [hd] at this
  simpa using this
end Go.Proofs.Ytiboolbndfhomaa
