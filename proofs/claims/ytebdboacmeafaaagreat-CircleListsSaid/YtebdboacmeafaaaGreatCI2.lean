/- Package circle: Without; clones of rows of circles and of checks. -/
import Derived.Test.YtebdboacmeafaaaGreatCDA
import Derived.Shelf.Slices.Clone
set_option linter.unusedVariables false
set_option linter.unusedSimpArgs false
namespace Go.Proofs.YtebdboacmeafaaaGreat
open Go Go.RowKit

theorem flat_n {α : Type} (f : α → List Value) (s : Nat) (hf : ∀ x, (f x).length = s) (d : α) : ∀ (l : List α) (i j : Nat), i < l.length → j < s → (l.flatMap f)[i * s + j]? = (f (l.getD i d))[j]?
  | [], i, j, h, _ => by simp at h
  | x :: l, 0, j, _, hj => by
    rw [List.flatMap_cons, Nat.zero_mul, Nat.zero_add, List.getElem?_append_left (by rw [hf]; exact hj)]; rfl
  | x :: l, i + 1, j, h, hj => by
    have e : (i + 1) * s + j - s = i * s + j := by rw [Nat.succ_mul]; omega
    rw [List.flatMap_cons, List.getElem?_append_right (by rw [hf, Nat.succ_mul]; omega), hf, e, flat_n f s hf d l i j (by simpa using h) hj]; rfl
theorem flat_len {α : Type} (f : α → List Value) (s : Nat) (hf : ∀ x, (f x).length = s) (l : List α) : (l.flatMap f).length = l.length * s := by
  induction l with
  | nil => simp
  | cons t l ih => rw [List.flatMap_cons, List.length_append, ih, hf, List.length_cons, Nat.succ_mul]; omega
theorem addC (b off j : Nat) : (⟨b, off, none⟩ : Addr).add j = ⟨b, off + j, none⟩ := by unfold Addr.add; split <;> simp_all
/-- A world that has grown out of another one. -/
def BlC (A W : World) : Prop := Below A.heap.size A W
theorem BlC.keep {A W C : World} (h : BlC A W) (hb : Below W.heap.size W C) : BlC A C := Below.trans h (hb.mono (Below.size h))
theorem CiRow.of_own {w : World} {base : Nat} {v : Value} {l : List Ci} (h : w.ownsRow base 93 8 v l.length (l.flatMap Ci.enc)) : CiRow w v l := by
  rcases h.2 with ⟨rfl, h0⟩ | ⟨g, cap, cur, rfl, hb, hg, hn, hm, hs, ht⟩
  · exact .inl ⟨_, _, rfl, List.eq_nil_of_length_eq_zero h0⟩
  · refine .inr ⟨g, 0, cap, rfl, hn, (Array.getElem?_eq_some_iff.1 hg).1, fun i hi => ?_⟩
    have key : ∀ j, j < 8 → w.cell? ⟨g, 0 + i * 8 + j, none⟩ = (Ci.enc (l.getD i .nil))[j]? := fun j hj => by
      rw [cellH hg, ← flat_n Ci.enc 8 (fun _ => rfl) .nil l i j hi hj, ← ht, List.getElem?_take_of_lt (by omega), Array.getElem?_toList, Nat.zero_add]
    exact ⟨key 0 (by omega), key 1 (by omega), key 2 (by omega), key 3 (by omega), key 4 (by omega), key 5 (by omega), key 6 (by omega), key 7 (by omega)⟩
theorem CiRow.raw {w : World} {b off n cap : Nat} {l : List Ci} (h : CiRow w (.slice (some ⟨b, off, none⟩) n cap) l) : n = l.length ∧ ∀ j u, (l.flatMap Ci.enc)[j]? = some u → w.cell? ((⟨b, off, none⟩ : Addr).add j) = some u := by
  rcases h with ⟨_, _, hv, rfl⟩ | ⟨b', off', c, hv, hp, h1, hc⟩
  · cases hv; exact ⟨rfl, fun j u hj => by simp at hj⟩
  · cases hv
    refine ⟨rfl, fun j u hj => ?_⟩
    have hjn := (List.getElem?_eq_some_iff.1 hj).1
    rw [flat_len Ci.enc 8 (fun _ => rfl)] at hjn
    obtain ⟨c0, c1, c2, c3, c4, c5, c6, c7⟩ := hc (j / 8) (by omega)
    have hj2 := flat_n Ci.enc 8 (fun _ => rfl) .nil l (j / 8) (j % 8) (by omega) (by omega)
    rw [show j / 8 * 8 + j % 8 = j by omega, hj] at hj2
    rw [addC]
    rcases (by omega : j % 8 = 0 ∨ j % 8 = 1 ∨ j % 8 = 2 ∨ j % 8 = 3 ∨ j % 8 = 4 ∨ j % 8 = 5 ∨ j % 8 = 6 ∨ j % 8 = 7) with e | e | e | e | e | e | e | e
    · rw [e] at hj2; rw [hj2, show off + j = off + j / 8 * 8 by omega]; exact c0
    · rw [e] at hj2; rw [hj2, show off + j = off + j / 8 * 8 + 1 by omega]; exact c1
    · rw [e] at hj2; rw [hj2, show off + j = off + j / 8 * 8 + 2 by omega]; exact c2
    · rw [e] at hj2; rw [hj2, show off + j = off + j / 8 * 8 + 3 by omega]; exact c3
    · rw [e] at hj2; rw [hj2, show off + j = off + j / 8 * 8 + 4 by omega]; exact c4
    · rw [e] at hj2; rw [hj2, show off + j = off + j / 8 * 8 + 5 by omega]; exact c5
    · rw [e] at hj2; rw [hj2, show off + j = off + j / 8 * 8 + 6 by omega]; exact c6
    · rw [e] at hj2; rw [hj2, show off + j = off + j / 8 * 8 + 7 by omega]; exact c7
theorem info_zi : (Tryz.prog.info? 93).map (fun i => (i.zero, i.size, i.bytes)) = some (some (.agg #[.int .i64 0, .int .i64 0, .int .i64 0, .int .i64 0, .int .i64 0, .int .i64 0, .int .i64 0, .int .i64 0]), 8, 64) := by kernel_rfl
set_option maxRecDepth 100000 in
set_option maxHeartbeats 8000000 in
theorem clonei_any (v : Value) (l : List Ci) (w : World) (hv : CiRow w v l) (hl : l.length ≤ 1000) :
    Calls Tryz.prog 40 #[v] w fun e w' => ∃ v', e = .returned v' ∧ w'.ownsRow w.heap.size 93 8 v' l.length (l.flatMap Ci.enc) ∧ Below w.heap.size w w' := by
  obtain ⟨i0, hi, hz0, hz1, hz2⟩ := info_parts info_zi
  have hq : ∀ (w : World) (a : Option Addr) (n c n' c' : Nat), (binOp .eql 22 (.slice a n c) (.slice none n' c')).run Tryz.prog w = .ok (.bool a.isNone) w := fun w a n c n' c' => Lib.run_eql_slice_nil w _ _ a n c n' c' Tryz.underlying22
  have hvf : (∃ c, v = .slice none 0 c ∧ l = []) ∨ ∃ p c, v = .slice (some p) l.length c ∧ ∀ j u, (l.flatMap Ci.enc)[j]? = some u → w.cell? (p.add j) = some u := by
    rcases hv with ⟨a, c, rfl, rfl⟩ | ⟨b, off, cap, rfl, h2⟩
    · cases a with
      | none => exact .inl ⟨c, rfl, rfl⟩
      | some p => exact .inr ⟨p, c, rfl, fun j u h => by simp at h⟩
    · exact .inr ⟨_, cap, rfl, (CiRow.raw (.inr ⟨b, off, cap, rfl, h2⟩)).2⟩
  have h1c : ∀ u ∈ l.flatMap Ci.enc, u.oneCell' = true := fun u hu => by
    obtain ⟨x, _, hx⟩ := List.mem_flatMap.1 hu
    unfold Ci.enc at hx
    simp only [List.mem_cons, List.not_mem_nil, or_false] at hx
    rcases hx with rfl | rfl | rfl | rfl | rfl | rfl | rfl | rfl <;> rfl
  have hfl := flat_len Ci.enc 8 (fun _ => rfl) l
  have HL := Lib.hid hl
  have HF := Lib.hid hfl
  have H1 := Lib.hid h1c
  clear hv hl h1c hfl
  rcases hvf with ⟨c, rfl, rfl⟩ | ⟨p, c, rfl, hc⟩
  · go_enter Tryz.func40, Tryz.ntmps40
    go_wp2
    go_ret
    exact ⟨_, rfl, ⟨rfl, .inl ⟨rfl, rfl⟩⟩, Below.refl _ _⟩
  · have HC := Lib.hid hc
    clear hc
    obtain ⟨XS, hXS⟩ : ∃ X, l.flatMap Ci.enc = X := ⟨_, rfl⟩
    obtain ⟨n, hn⟩ : ∃ n, l.length = n := ⟨_, rfl⟩
    rw [hXS] at HC HF H1 ⊢
    rw [hn] at HL HF ⊢
    clear hXS hn
    go_enter Tryz.func40, Tryz.ntmps40
    go_wp2_with (at_builtin; refine wpList_append_own _ rfl _ _ 22 rfl w.heap.size 93 i0 (.agg #[.int .i64 0, .int .i64 0, .int .i64 0, .int .i64 0, .int .i64 0, .int .i64 0, .int .i64 0, .int .i64 0]) 8 64 Tryz.underlying22 hi hz0 hz1 hz2 rfl (by decide) _ _ _ rfl (World.ownsRow_made w #[] 0 (Nat.le_refl _) (Nat.zero_le _) rfl) p n c XS rfl ?qc1 ?qc2 ?qc3 ?qc4 ?qc5 ?qc6 ?_)
    case qc1 => exact HF.out
    case qc2 =>
      intro j u hj
      exact Lib.cell?_alloc_some _ (HC.out j u hj)
    case qc3 => exact H1.out
    case qc4 => have := HL.out; unfold maxLen; omega
    case qc5 => have := HL.out; omega
    case qc6 => simp
    intro v' w1 hown hgrow hnil
    go_wp2
    go_ret
    exact ⟨v', rfl, by simpa using hown, ((Below.refl _ w).alloc (Nat.le_refl _) _).grown hgrow (by simp) (by intro k hk; simp [Value.ownBlock] at hk; omega)⟩
theorem CkRow.of_own {w : World} {base : Nat} {v : Value} {l : List Ck} (h : w.ownsRow base 67 7 v l.length (l.flatMap Ck.enc)) : CkRow w v l := by
  rcases h.2 with ⟨rfl, h0⟩ | ⟨g, cap, cur, rfl, hb, hg, hn, hm, hs, ht⟩
  · exact .inl ⟨_, _, rfl, List.eq_nil_of_length_eq_zero h0⟩
  · refine .inr ⟨g, 0, cap, rfl, hn, (Array.getElem?_eq_some_iff.1 hg).1, fun i hi => ?_⟩
    have key : ∀ j, j < 7 → w.cell? ⟨g, 0 + i * 7 + j, none⟩ = (Ck.enc (l.getD i .nil))[j]? := fun j hj => by
      rw [cellH hg, ← flat_n Ck.enc 7 (fun _ => rfl) .nil l i j hi hj, ← ht, List.getElem?_take_of_lt (by omega), Array.getElem?_toList, Nat.zero_add]
    exact ⟨key 0 (by omega), key 1 (by omega), key 2 (by omega), key 3 (by omega), key 4 (by omega), key 5 (by omega), key 6 (by omega)⟩
theorem CkRow.raw {w : World} {b off n cap : Nat} {l : List Ck} (h : CkRow w (.slice (some ⟨b, off, none⟩) n cap) l) : n = l.length ∧ ∀ j u, (l.flatMap Ck.enc)[j]? = some u → w.cell? ((⟨b, off, none⟩ : Addr).add j) = some u := by
  rcases h with ⟨_, _, hv, rfl⟩ | ⟨b', off', c, hv, hp, h1, hc⟩
  · cases hv; exact ⟨rfl, fun j u hj => by simp at hj⟩
  · cases hv
    refine ⟨rfl, fun j u hj => ?_⟩
    have hjn := (List.getElem?_eq_some_iff.1 hj).1
    rw [flat_len Ck.enc 7 (fun _ => rfl)] at hjn
    obtain ⟨c0, c1, c2, c3, c4, c5, c6⟩ := hc (j / 7) (by omega)
    have hj2 := flat_n Ck.enc 7 (fun _ => rfl) .nil l (j / 7) (j % 7) (by omega) (by omega)
    rw [show j / 7 * 7 + j % 7 = j by omega, hj] at hj2
    rw [addC]
    rcases (by omega : j % 7 = 0 ∨ j % 7 = 1 ∨ j % 7 = 2 ∨ j % 7 = 3 ∨ j % 7 = 4 ∨ j % 7 = 5 ∨ j % 7 = 6) with e | e | e | e | e | e | e
    · rw [e] at hj2; rw [hj2, show off + j = off + j / 7 * 7 by omega]; exact c0
    · rw [e] at hj2; rw [hj2, show off + j = off + j / 7 * 7 + 1 by omega]; exact c1
    · rw [e] at hj2; rw [hj2, show off + j = off + j / 7 * 7 + 2 by omega]; exact c2
    · rw [e] at hj2; rw [hj2, show off + j = off + j / 7 * 7 + 3 by omega]; exact c3
    · rw [e] at hj2; rw [hj2, show off + j = off + j / 7 * 7 + 4 by omega]; exact c4
    · rw [e] at hj2; rw [hj2, show off + j = off + j / 7 * 7 + 5 by omega]; exact c5
    · rw [e] at hj2; rw [hj2, show off + j = off + j / 7 * 7 + 6 by omega]; exact c6
theorem info_zk : (Tryz.prog.info? 67).map (fun i => (i.zero, i.size, i.bytes)) = some (some (.agg #[.int .i64 0, .int .i64 0, .int .i64 0, .int .i64 0, .int .i64 0, .int .i64 0, .int .i64 0]), 7, 56) := by kernel_rfl
set_option maxRecDepth 100000 in
set_option maxHeartbeats 8000000 in
theorem clonek_any (v : Value) (l : List Ck) (w : World) (hv : CkRow w v l) (hl : l.length ≤ 1000) :
    Calls Tryz.prog 45 #[v] w fun e w' => ∃ v', e = .returned v' ∧ w'.ownsRow w.heap.size 67 7 v' l.length (l.flatMap Ck.enc) ∧ Below w.heap.size w w' := by
  obtain ⟨i0, hi, hz0, hz1, hz2⟩ := info_parts info_zk
  have hq : ∀ (w : World) (a : Option Addr) (n c n' c' : Nat), (binOp .eql 23 (.slice a n c) (.slice none n' c')).run Tryz.prog w = .ok (.bool a.isNone) w := fun w a n c n' c' => Lib.run_eql_slice_nil w _ _ a n c n' c' Tryz.underlying23
  have hvf : (∃ c, v = .slice none 0 c ∧ l = []) ∨ ∃ p c, v = .slice (some p) l.length c ∧ ∀ j u, (l.flatMap Ck.enc)[j]? = some u → w.cell? (p.add j) = some u := by
    rcases hv with ⟨a, c, rfl, rfl⟩ | ⟨b, off, cap, rfl, h2⟩
    · cases a with
      | none => exact .inl ⟨c, rfl, rfl⟩
      | some p => exact .inr ⟨p, c, rfl, fun j u h => by simp at h⟩
    · exact .inr ⟨_, cap, rfl, (CkRow.raw (.inr ⟨b, off, cap, rfl, h2⟩)).2⟩
  have h1c : ∀ u ∈ l.flatMap Ck.enc, u.oneCell' = true := fun u hu => by
    obtain ⟨x, _, hx⟩ := List.mem_flatMap.1 hu
    unfold Ck.enc at hx
    simp only [List.mem_cons, List.not_mem_nil, or_false] at hx
    rcases hx with rfl | rfl | rfl | rfl | rfl | rfl | rfl <;> rfl
  have hfl := flat_len Ck.enc 7 (fun _ => rfl) l
  have HL := Lib.hid hl
  have HF := Lib.hid hfl
  have H1 := Lib.hid h1c
  clear hv hl h1c hfl
  rcases hvf with ⟨c, rfl, rfl⟩ | ⟨p, c, rfl, hc⟩
  · go_enter Tryz.func45, Tryz.ntmps45
    go_wp2
    go_ret
    exact ⟨_, rfl, ⟨rfl, .inl ⟨rfl, rfl⟩⟩, Below.refl _ _⟩
  · have HC := Lib.hid hc
    clear hc
    obtain ⟨XS, hXS⟩ : ∃ X, l.flatMap Ck.enc = X := ⟨_, rfl⟩
    obtain ⟨n, hn⟩ : ∃ n, l.length = n := ⟨_, rfl⟩
    rw [hXS] at HC HF H1 ⊢
    rw [hn] at HL HF ⊢
    clear hXS hn
    go_enter Tryz.func45, Tryz.ntmps45
    go_wp2_with (at_builtin; refine wpList_append_own _ rfl _ _ 23 rfl w.heap.size 67 i0 (.agg #[.int .i64 0, .int .i64 0, .int .i64 0, .int .i64 0, .int .i64 0, .int .i64 0, .int .i64 0]) 7 56 Tryz.underlying23 hi hz0 hz1 hz2 rfl (by decide) _ _ _ rfl (World.ownsRow_made w #[] 0 (Nat.le_refl _) (Nat.zero_le _) rfl) p n c XS rfl ?qc1 ?qc2 ?qc3 ?qc4 ?qc5 ?qc6 ?_)
    case qc1 => exact HF.out
    case qc2 =>
      intro j u hj
      exact Lib.cell?_alloc_some _ (HC.out j u hj)
    case qc3 => exact H1.out
    case qc4 => have := HL.out; unfold maxLen; omega
    case qc5 => have := HL.out; omega
    case qc6 => simp
    intro v' w1 hown hgrow hnil
    go_wp2
    go_ret
    exact ⟨v', rfl, by simpa using hown, ((Below.refl _ w).alloc (Nat.le_refl _) _).grown hgrow (by simp) (by intro k hk; simp [Value.ownBlock] at hk; omega)⟩
theorem has_drop (x : Int) (l : List Int) (k : Nat) (h : k < l.length) : (l.drop k).contains x = ((l.getD k 0 == x) || (l.drop (k + 1)).contains x) := by
  rw [List.drop_eq_getElem_cons h, List.contains_cons, List.getD_eq_getElem?_getD, List.getElem?_eq_getElem h]
  simp only [Option.getD_some]
  rw [BEq.comm]
/-- What Index answers, as far as it is asked. -/
def IyOut (C : Bool) (w : World) (e : Ending) (w' : World) : Prop := ∃ r : Int, e = .returned (.int .i64 r) ∧ decide (0 ≤ r) = C ∧ Below w.heap.size w w'
set_option maxRecDepth 100000 in
set_option maxHeartbeats 8000000 in
theorem ixn_any (v : Value) (l : List Int) (x : Int) (w : World) (hv : INRow w v l) (hl : l.length ≤ 9223372036854775807) :
    Calls Tryz.prog 102 #[v, .int .i64 x] w fun e w' => IyOut (l.contains x) w e w' := by
  obtain ⟨a, cap, rfl, hc⟩ := hv.form
  have HC := Lib.hid hc
  have HL := Lib.hid hl
  obtain ⟨C, hC⟩ : ∃ C, l.contains x = C := ⟨_, rfl⟩
  have HT0 : Hid ((l.drop 0).contains x = C) := Lib.hid (by rw [List.drop_zero]; exact hC)
  rw [hC]
  clear hc hv hC hl
  go_enter Tryz.func102, Tryz.ntmps102
  go_wp2_with fail
  go_loopw [8] (fun i wr => ∃ (k : Nat), k ≤ l.length ∧ i = .int .i64 k ∧ Hid ((l.drop k).contains x = C) ∧ Hid (Below w.heap.size w wr)) (fun i _ => l.length - (intOf i).toNat)
  case atStart => exact ⟨0, Nat.zero_le _, rfl, HT0, Lib.hid (Below.refl _ _)⟩
  case round =>
    obtain ⟨k, hk, rfl, hT, hB⟩ := hrel
    have hll := HL.out
    by_cases hkl : k < l.length
    · obtain ⟨b, off, rfl, hb, c0⟩ := HC.out k hkl
      have hki : (k : Int) < l.length := by omega
      have hk0 : (0 : Int) ≤ k := by omega
      have e0 := (hB.out.cell (p := ⟨b, _, none⟩) hb).trans c0
      have HD := Lib.hid (has_drop x l k hkl)
      have HKL := Lib.hid hkl
      obtain ⟨y, hy⟩ : ∃ y, l.getD k 0 = y := ⟨_, rfl⟩
      rw [hy] at e0 HD
      clear hy c0 hb
      have hxx : (x == y) = (y == x) := BEq.comm
      cases q2 : (y == x)
      · have HN : Hid ((l.drop (k + 1)).contains x = C) := Lib.hid (by rw [← hT.out, HD.out, q2, Bool.false_or])
        have qq : (x == y) = false := by rw [hxx, q2]
        clear hxx
        go_wp2_with fail
        go_roundw
        case rel => exact ⟨k + 1, HKL.out, by go_num, HN, hB⟩
        case measure => have := HKL.out; simp [intOf]; omega
      · have HN : Hid (C = true) := Lib.hid (by rw [← hT.out, HD.out, q2, Bool.true_or])
        have qq : (x == y) = true := by rw [hxx, q2]
        clear hxx
        go_wp2_with fail
        go_ret
        exact ⟨(k : Int), rfl, by rw [HN.out]; simp, hB.out⟩
    · obtain rfl : k = l.length := by omega
      have HN : Hid (C = false) := Lib.hid (by rw [← hT.out, List.drop_length]; rfl)
      go_wp2_with fail
      go_ret
      exact ⟨-1, rfl, by rw [HN.out]; rfl, hB.out⟩
set_option maxRecDepth 100000 in
set_option maxHeartbeats 8000000 in
theorem has_any (v : Value) (l : List Int) (x : Int) (w : World) (hv : INRow w v l) (hl : l.length ≤ 9223372036854775807) :
    Calls Tryz.prog 41 #[v, .int .i64 x] w fun e w' => e = .returned (.bool (l.contains x)) ∧ Below w.heap.size w w' := by
  have HX := Lib.hid (ixn_any v l x w hv hl)
  obtain ⟨C, hC⟩ : ∃ C, l.contains x = C := ⟨_, rfl⟩
  unfold IyOut at HX
  rw [hC] at HX ⊢
  clear hC hv hl
  go_enter Tryz.func41, Tryz.ntmps41
  go_wp2_with fail
  refine HX.out.mono ?_
  rintro e w3 ⟨r, rfl, hr, hb3⟩
  have HB := Lib.hid hb3
  have HR := Lib.hid hr
  clear hr hb3
  go_wp2_with fail
  go_ret
  exact ⟨by rw [← HR.out]; rfl, HB.out⟩
/-- The checks without some. -/
def woC (ks : List Ck) (ids : List Int) : List Ck := ks.filter fun k => !ids.contains k.id
theorem woC_step {ks : List Ck} {ids : List Int} {k : Nat} (hk : k < ks.length) : woC (ks.take (k + 1)) ids = if ids.contains (ks.getD k .nil).id = true then woC (ks.take k) ids else woC (ks.take k) ids ++ [ks.getD k .nil] := by
  unfold woC
  rw [List.take_succ_eq_append_getElem hk, List.filter_append, List.getD_eq_getElem?_getD, List.getElem?_eq_getElem hk]
  simp only [Option.getD_some]
  cases h : ids.contains ks[k].id
  · simp only [List.filter_cons, h, Bool.not_false, if_true, Bool.false_eq_true, if_false, List.filter_nil]
  · simp only [List.filter_cons, h, Bool.not_true, if_true, Bool.false_eq_true, if_false, List.filter_nil, List.append_nil]
theorem woC_len (ks : List Ck) (ids : List Int) (k : Nat) : (woC (ks.take k) ids).length ≤ k := by
  unfold woC
  refine Nat.le_trans (List.length_filter_le _ _) ?_
  rw [List.length_take]; omega
def woE (cs : List Ci) (ks : List Ck) (ids : List Int) : Int := if ccE cs ks = 0 then (if (ids.all fun i => ciB i 1 1099511627776) = true then 0 else 1) else ccE cs ks
/-- What Without answers. -/
def WoOut (cs : List Ci) (ks : List Ck) (ids : List Int) (w : World) (e : Ending) (w' : World) : Prop :=
  Below w.heap.size w w' ∧ (woE cs ks ids ≠ 0 → e = .returned (.tuple #[.agg #[.slice none 0 0, .slice none 0 0], .int .i64 (woE cs ks ids)])) ∧
    (woE cs ks ids = 0 → ∃ v1 v2, e = .returned (.tuple #[.agg #[v1, v2], .int .i64 0]) ∧ CiRow w' v1 cs ∧ CkRow w' v2 (woC ks ids))
theorem info_cs2 : (Tryz.prog.info? 25).map (·.size) = some 2 := by kernel_rfl
theorem own_set2 {w : World} {c : Nat} {e t : TypeId} {size : Nat} {v : Value} {n : Nat} {xs : List Value} {q : Nat} {x0 x1 : Value} {f : Nat × Nat} (h : w.ownsRow c e size v n xs) (hq : w.heap[q]? = some (.cells #[x0, x1] t f)) (ht : t ≠ e) (y0 y1 : Value) : ((w.setCell ⟨q, 0, none⟩ y0).setCell ⟨q, 1, none⟩ y1).ownsRow c e size v n xs :=
  own_setC (own_setC h hq ht 0 y0) (heap_same hq 0 y0) ht 1 y1
/-- A row of checks of the function's own. -/
def OwKw (w : World) (B : Nat) (v : Value) (n : Nat) (l : List Ck) : Prop := w.ownsRow B 67 7 v n (l.flatMap Ck.enc)
theorem OwKw.keep {A C : World} {B n : Nat} {v : Value} {l : List Ck} (h : OwKw A B v n l) (hb : Below A.heap.size A C) : OwKw C B v n l := ownBelow h hb
theorem BlC.set {A W : World} {q : Nat} (h : BlC A W) (hq : A.heap.size ≤ q) (j : Nat) (v : Value) : BlC A (W.setCell ⟨q, j, none⟩ v) := Below.setCell (p := ⟨q, j, none⟩) h hq v
set_option maxRecDepth 100000 in
set_option maxHeartbeats 8000000 in
theorem Without_any (v1 v2 vi : Value) (cs : List Ci) (ks : List Ck) (ids : List Int) (w : World) (hv1 : CiRow w v1 cs) (hv2 : CkRow w v2 ks) (hvi : INRow w vi ids) (hl1 : cs.length ≤ 9223372036854775807) (hl2 : ks.length ≤ 9223372036854775807) (hli : ids.length ≤ 9223372036854775807) :
    Calls Tryz.prog 9 #[.agg #[v1, v2], vi] w fun e w' => WoOut cs ks ids w e w' := by
  obtain ⟨a1, c1, rfl, _⟩ := hv1.form
  obtain ⟨a2, c2, rfl, hc2⟩ := hv2.form
  obtain ⟨ia, ic, rfl, hci⟩ := hvi.form
  have HC2 := Lib.hid hc2
  have HCI := Lib.hid hci
  have HLI := Lib.hid hli
  have HCH := Lib.hid (fun w' (h : Below w.heap.size w w') => cCheck_any (.slice a1 cs.length c1) (.slice a2 ks.length c2) cs ks w' (hv1.keep h) (hv2.keep h) hl1 hl2)
  have HCL := Lib.hid (fun (hn : cs.length ≤ 12) w' (h : Below w.heap.size w w') => clonei_any (.slice a1 cs.length c1) cs w' (hv1.keep h) (by omega))
  have HHS := Lib.hid (fun x w' (h : Below w.heap.size w w') => has_any (.slice ia ids.length ic) ids x w' (INRow.keep hvi h) hli)
  have HOK := Lib.hid (ccE_ok (cs := cs) (ks := ks))
  have HW1 : Hid (ccE cs ks ≠ 0 → woE cs ks ids = ccE cs ks) := Lib.hid (fun h => by unfold woE; rw [if_neg h])
  have HW2 : Hid (ccE cs ks = 0 → ∀ k, k < ids.length → ciB (ids.getD k 0) 1 1099511627776 = false → woE cs ks ids = 1) := Lib.hid (fun h k hk hb => by
    unfold woE
    rw [if_pos h, if_neg]
    rw [List.all_eq_true]
    intro h2
    have h3 := h2 (ids.getD k 0) (by rw [List.getD_eq_getElem?_getD, List.getElem?_eq_getElem hk]; exact List.getElem_mem _)
    rw [hb] at h3; cases h3)
  have HW3 : Hid (ccE cs ks = 0 → (∀ k, k < ids.length → ciB (ids.getD k 0) 1 1099511627776 = true) → woE cs ks ids = 0) := Lib.hid (fun h h2 => by
    unfold woE
    rw [if_pos h, if_pos]
    rw [List.all_eq_true]
    intro x hx
    obtain ⟨k, hk, rfl⟩ := List.getElem_of_mem hx
    have := h2 k hk
    rwa [List.getD_eq_getElem?_getD, List.getElem?_eq_getElem hk] at this)
  unfold WoOut
  obtain ⟨WE, hWE⟩ : ∃ q, woE cs ks ids = q := ⟨_, rfl⟩
  obtain ⟨E, hE⟩ : ∃ q, ccE cs ks = q := ⟨_, rfl⟩
  rw [hWE] at HW1 HW2 HW3 ⊢
  rw [hE] at HW1 HW2 HW3 HCH HOK
  obtain ⟨i0, hi0, hz0, hz1, hz2⟩ := info_parts info_zk
  clear hv1 hv2 hvi hc2 hci hli hl1 hl2 hWE hE
  obtain ⟨x0, x1, xlt, xb⟩ := two_cells w #[.slice a1 cs.length c1, .slice a2 ks.length c2] #[.slice none 0 0, .slice none 0 0] 25 25 (Below.refl _ _)
  have HNc : Hid (((w.alloc (.cells #[.slice a1 cs.length c1, .slice a2 ks.length c2] 25)).alloc (.cells #[.slice none 0 0, .slice none 0 0] 25)).heap[w.heap.size]? = some (.cells #[.slice a1 cs.length c1, .slice a2 ks.length c2] 25 (0, 0))) := Lib.hid x0
  have HNr : Hid (((w.alloc (.cells #[.slice a1 cs.length c1, .slice a2 ks.length c2] 25)).alloc (.cells #[.slice none 0 0, .slice none 0 0] 25)).heap[w.heap.size + 1]? = some (.cells #[.slice none 0 0, .slice none 0 0] 25 (0, 0))) := Lib.hid x1
  have HB : Hid (Below w.heap.size w ((w.alloc (.cells #[.slice a1 cs.length c1, .slice a2 ks.length c2] 25)).alloc (.cells #[.slice none 0 0, .slice none 0 0] 25))) := Lib.hid xb
  obtain ⟨Z, hZ⟩ : ∃ Z, ((w.alloc (.cells #[.slice a1 cs.length c1, .slice a2 ks.length c2] 25)).alloc (.cells #[.slice none 0 0, .slice none 0 0] 25)) = Z := ⟨_, rfl⟩
  rw [hZ] at HB HNc HNr
  have HZ := Lib.hid hZ
  clear hZ xlt xb x0 x1
  go_enter Tryz.func9, Tryz.ntmps9
  go_wp2_with fail
  rw [HZ.out]
  refine (HCH.out _ HB.out).mono ?_
  rintro e w1 ⟨rfl, hb⟩
  replace HB := Lib.hid (HB.out.trans (hb.mono HB.out.size))
  replace HNc := Lib.hid ((hb.block _ (Array.getElem?_eq_some_iff.1 HNc.out).1).trans HNc.out)
  replace HNr := Lib.hid ((hb.block _ (Array.getElem?_eq_some_iff.1 HNr.out).1).trans HNr.out)
  clear hb
  by_cases hE0 : E = 0
  case neg =>
    have HN := Lib.hid (HW1.out hE0)
    have gE : (E != 0) = true := by simpa using hE0
    have HE0 := Lib.hid hE0
    clear hE0
    have zr0 := cellH HNr.out 0
    have zr1 := cellH HNr.out 1
    simp only [List.getElem?_toArray, List.getElem?_cons_zero, List.getElem?_cons_succ] at zr0 zr1
    have zfr := freeH HNr.out
    go_wp2_with fail
    obtain ⟨z1, z2⟩ := set2 HNr.out HB.out (by omega) (.slice none 0 0) (.slice none 0 0)
    refine bodyPost_ret (res_ct Tryz.results9 _ _ (w.heap.size + 1) 25 #[.slice none 0 0, .slice none 0 0] (0, 0) _ rfl z1 Tryz.underlying25 rfl info_cs2) rfl ?_
    exact ⟨z2, (fun _ => by rw [HN.out]; rfl), fun h => absurd (HN.out.symm.trans h) HE0.out⟩
  subst hE0
  have HO := Lib.hid (HOK.out rfl)
  replace HW2 := Lib.hid (HW2.out rfl)
  replace HW3 := Lib.hid (HW3.out rfl)
  clear HW1 HOK
  go_wp2_with fail
  go_loopw [20] (fun i wr => ∃ (k : Nat), k ≤ ids.length ∧ i = .int .i64 k ∧ Hid (∀ j, j < k → ciB (ids.getD j 0) 1 1099511627776 = true) ∧ Hid (Below w.heap.size w wr) ∧ Hid (wr.heap[w.heap.size]? = some (.cells #[.slice a1 cs.length c1, .slice a2 ks.length c2] 25 (0, 0))) ∧ Hid (wr.heap[w.heap.size + 1]? = some (.cells #[.slice none 0 0, .slice none 0 0] 25 (0, 0)))) (fun i _ => ids.length - (intOf i).toNat)
  case atStart => exact ⟨0, Nat.zero_le _, rfl, Lib.hid (fun j hj => by omega), HB, HNc, HNr⟩
  case round =>
    clear HB HNc HNr
    obtain ⟨k, hk, rfl, hN, HB, HNc, HNr⟩ := hrel
    have hll := HLI.out
    by_cases hkl : k < ids.length
    · obtain ⟨b, off, rfl, hb, c0⟩ := HCI.out k hkl
      have e0 := (HB.out.cell (p := ⟨b, _, none⟩) hb).trans c0
      have hki : (k : Int) < ids.length := by omega
      have hk0 : (0 : Int) ≤ k := by omega
      have HKL := Lib.hid hkl
      have HBD := Lib.hid (HW2.out k hkl)
      have HNX : Hid (ciB (ids.getD k 0) 1 1099511627776 = true → ∀ j, j < k + 1 → ciB (ids.getD j 0) 1 1099511627776 = true) := Lib.hid (fun h j hj => by
        by_cases e : j = k
        · subst e; exact h
        · exact hN.out j (by omega))
      obtain ⟨X, hX⟩ : ∃ X, ids.getD k 0 = X := ⟨_, rfl⟩
      rw [hX] at e0 HBD HNX
      have HVI := Lib.hid (fun w' => validID_any X w')
      obtain ⟨B, hB⟩ : ∃ B, ciB X 1 1099511627776 = B := ⟨_, rfl⟩
      rw [hB] at HBD HNX HVI
      clear hX hB hb c0
      go_wp2_with fail
      refine (HVI.out _).mono ?_
      rintro e w9 ⟨rfl, rfl⟩
      cases B
      · have HN := Lib.hid (HBD.out rfl)
        have zr0 := cellH HNr.out 0
        have zr1 := cellH HNr.out 1
        simp only [List.getElem?_toArray, List.getElem?_cons_zero, List.getElem?_cons_succ] at zr0 zr1
        have zfr := freeH HNr.out
        go_wp2_with fail
        obtain ⟨z1, z2⟩ := set2 HNr.out HB.out (by omega) (.slice none 0 0) (.slice none 0 0)
        refine bodyPost_ret (res_ct Tryz.results9 _ _ (w.heap.size + 1) 25 #[.slice none 0 0, .slice none 0 0] (0, 0) _ rfl z1 Tryz.underlying25 rfl info_cs2) rfl ?_
        exact ⟨z2, (fun _ => by rw [HN.out]; rfl), fun h => by rw [HN.out] at h; cases h⟩
      · have HN2 := Lib.hid (HNX.out rfl)
        go_wp2_with fail
        go_roundw
        case rel => exact ⟨k + 1, HKL.out, by go_num, HN2, HB, HNc, HNr⟩
        case measure => have := HKL.out; simp [intOf]; omega
    · obtain rfl : k = ids.length := by omega
      have HWZ := Lib.hid (HW3.out hN.out)
      have hn := HO.out.n
      have HCN := Lib.hid (HCL.out hn)
      clear hN hkl hk hn HW2 HW3 HCL
      have zc0 := cellH HNc.out 0
      have zc1 := cellH HNc.out 1
      simp only [List.getElem?_toArray, List.getElem?_cons_zero, List.getElem?_cons_succ] at zc0 zc1
      go_wp2_with fail
      refine (HCN.out _ HB.out).mono ?_
      rintro e w2 ⟨v1, rfl, hcr, hb⟩
      clear zc0 zc1
      replace HB := Lib.hid (HB.out.trans (hb.mono HB.out.size))
      replace HNc := Lib.hid ((hb.block _ (Array.getElem?_eq_some_iff.1 HNc.out).1).trans HNc.out)
      replace HNr := Lib.hid ((hb.block _ (Array.getElem?_eq_some_iff.1 HNr.out).1).trans HNr.out)
      clear hb
      obtain ⟨va, vc, rfl⟩ := row_formC hcr
      have HCR := Lib.hid hcr
      clear hcr
      have HS1 := Lib.hid HB.out.size
      have HQ : Hid (BlC w2 w2) := Lib.hid (Below.refl _ _)
      have hAlc : Below w2.heap.size w2 (w2.alloc (.cells #[.slice none 0 0, .slice none 0 0] 25)) := (Below.refl _ w2).alloc (Nat.le_refl _) _
      have HSo : Hid (w.heap.size ≤ w2.heap.size) := Lib.hid HB.out.size
      have HNo : Hid ((w2.alloc (.cells #[.slice none 0 0, .slice none 0 0] 25)).heap[w2.heap.size]? = some (.cells #[.slice none 0 0, .slice none 0 0] 25 (0, 0))) := Lib.hid (heap_alloc_new _ _)
      replace HB := Lib.hid (HB.out.trans (hAlc.mono HB.out.size))
      have HXc_o : Hid (w.heap.size ≠ w2.heap.size) := Lib.hid (Nat.ne_of_lt (Array.getElem?_eq_some_iff.1 HNc.out).1)
      have HXr_o : Hid (w.heap.size + 1 ≠ w2.heap.size) := Lib.hid (Nat.ne_of_lt (Array.getElem?_eq_some_iff.1 HNr.out).1)
      replace HNc := Lib.hid ((hAlc.block _ (Array.getElem?_eq_some_iff.1 HNc.out).1).trans HNc.out)
      replace HNr := Lib.hid ((hAlc.block _ (Array.getElem?_eq_some_iff.1 HNr.out).1).trans HNr.out)
      replace HQ := Lib.hid (HQ.out.keep hAlc)
      obtain ⟨ao, hao⟩ : ∃ qq, w2.alloc (.cells #[.slice none 0 0, .slice none 0 0] 25) = qq := ⟨_, rfl⟩
      obtain ⟨bko, hbo⟩ : ∃ qq, w2.heap.size = qq := ⟨_, rfl⟩
      rw [hao] at HB HNo HNc HNr HQ
      rw [hbo] at HNo HSo HXc_o HXr_o
      clear hAlc
      have HS2o : Hid (w2.heap.size ≤ bko) := Lib.hid (Nat.le_of_eq hbo)
      have zo0 := cellH HNo.out 0
      have zo1 := cellH HNo.out 1
      simp only [List.getElem?_toArray, List.getElem?_cons_zero, List.getElem?_cons_succ] at zo0 zo1
      have zfo := freeH HNo.out
      replace HNc := Lib.hid ((heap_other ao (bko) 0 (.slice va cs.length vc) _ HXc_o.out).trans HNc.out)
      replace HNr := Lib.hid ((heap_other ao (bko) 0 (.slice va cs.length vc) _ HXr_o.out).trans HNr.out)
      replace HNo := Lib.hid (heap_same HNo.out 0 (.slice va cs.length vc))
      simp only [List.setIfInBounds_toArray, List.set_cons_zero, List.set_cons_succ] at HNo
      replace HB := Lib.hid (HB.out.setCell (p := ⟨bko, 0, none⟩) HSo.out (.slice va cs.length vc))
      replace HQ := Lib.hid (HQ.out.set HS2o.out 0 (.slice va cs.length vc))
      obtain ⟨s3, hs3⟩ : ∃ X, ao.setCell ⟨bko, 0, none⟩ (.slice va cs.length vc) = X := ⟨_, rfl⟩
      rw [hs3] at HB HNc HNr HNo HQ
      have zo0_5 := cellH HNo.out 0
      have zo1_5 := cellH HNo.out 1
      simp only [List.getElem?_toArray, List.getElem?_cons_zero, List.getElem?_cons_succ] at zo0_5 zo1_5
      have zfo_5 := freeH HNo.out
      replace HNc := Lib.hid ((heap_other s3 (bko) 1 (.slice none 0 0) _ HXc_o.out).trans HNc.out)
      replace HNr := Lib.hid ((heap_other s3 (bko) 1 (.slice none 0 0) _ HXr_o.out).trans HNr.out)
      replace HNo := Lib.hid (heap_same HNo.out 1 (.slice none 0 0))
      simp only [List.setIfInBounds_toArray, List.set_cons_zero, List.set_cons_succ] at HNo
      replace HB := Lib.hid (HB.out.setCell (p := ⟨bko, 1, none⟩) HSo.out (.slice none 0 0))
      replace HQ := Lib.hid (HQ.out.set HS2o.out 1 (.slice none 0 0))
      obtain ⟨s4, hs4⟩ : ∃ X, s3.setCell ⟨bko, 1, none⟩ (.slice none 0 0) = X := ⟨_, rfl⟩
      rw [hs4] at HB HNc HNr HNo HQ
      have zc0_6 := cellH HNc.out 0
      have zc1_6 := cellH HNc.out 1
      have zo0_6 := cellH HNo.out 0
      have zo1_6 := cellH HNo.out 1
      simp only [List.getElem?_toArray, List.getElem?_cons_zero, List.getElem?_cons_succ] at zc0_6 zc1_6 zo0_6 zo1_6
      have HOW : Hid (s4.ownsRow w2.heap.size 67 7 (.slice none 0 0) (woC (ks.take 0) ids).length ((woC (ks.take 0) ids).flatMap Ck.enc)) := Lib.hid ⟨rfl, .inl ⟨rfl, rfl⟩⟩
      go_wp2_with fail
      try clear hao hbo hs3 hs4
      clear zo0 zo1 zfo zo0_5 zo1_5 zfo_5 zc0_6 zc1_6 zo0_6 zo1_6
      clear HNc
      go_loopw [36] (fun i wr => ∃ (k : Nat) (o : Value), k ≤ ks.length ∧ i = .int .i64 k ∧ Hid (wr.ownsRow w2.heap.size 67 7 o (woC (ks.take k) ids).length ((woC (ks.take k) ids).flatMap Ck.enc)) ∧ Hid (Below w.heap.size w wr) ∧ Hid (wr.heap[w.heap.size + 1]? = some (.cells #[.slice none 0 0, .slice none 0 0] 25 (0, 0))) ∧ Hid (wr.heap[bko]? = some (.cells #[.slice va cs.length vc, o] 25 (0, 0))) ∧ Hid (BlC w2 wr)) (fun i _ => ks.length - (intOf i).toNat)
      case atStart => exact ⟨0, _, Nat.zero_le _, rfl, HOW, HB, HNr, HNo, HQ⟩
      case round =>
        clear HB HNr HNo HQ
        clear HOW
        obtain ⟨k, o, hk, rfl, HOW, HB, HNr, HNo, HQ⟩ := hrel
        obtain ⟨oa, oc, rfl⟩ := row_formC HOW.out
        have hm := HO.out.m
        by_cases hkl : k < ks.length
        · obtain ⟨b, off, rfl, hb, hat⟩ := HC2.out k hkl
          obtain ⟨e0, e1, e2, e3, e4, e5, e6⟩ := hat.keep HB.out hb
          have hki : (k : Int) < ks.length := by omega
          have hk0 : (0 : Int) ≤ k := by omega
          have HKL := Lib.hid hkl
          have HST := Lib.hid (woC_step (ids := ids) hkl)
          have HLN := Lib.hid (Nat.le_trans (woC_len ks ids k) (by omega : k ≤ 60))
          obtain ⟨X, hX⟩ : ∃ X, ks.getD k .nil = X := ⟨_, rfl⟩
          rw [hX] at e0 e1 e2 e3 e4 e5 e6 HST
          obtain ⟨k0, k1, k2, k3, k4, k5, k6⟩ := X
          simp only at e0 e1 e2 e3 e4 e5 e6 HST
          have HHX := Lib.hid (HHS.out k0)
          obtain ⟨C, hC⟩ : ∃ C, ids.contains k0 = C := ⟨_, rfl⟩
          rw [hC] at HST HHX
          obtain ⟨L, hL⟩ : ∃ L, woC (ks.take k) ids = L := ⟨_, rfl⟩
          rw [hL] at HST HOW HLN HNo
          obtain ⟨n, hn⟩ : ∃ n, L.length = n := ⟨_, rfl⟩
          rw [hn] at HOW HLN HNo
          have HNN := Lib.hid hn
          clear hX hat hb hC hL hn
          have HOW : Hid (OwKw wr w2.heap.size (.slice oa n oc) n L) := HOW
          have zo0 := cellH HNo.out 0
          have zo1 := cellH HNo.out 1
          simp only [List.getElem?_toArray, List.getElem?_cons_zero, List.getElem?_cons_succ] at zo0 zo1
          have hAlc : Below wr.heap.size wr (wr.alloc (.cells #[.int .i64 k0, .int .i64 k1, .int .i64 k2, .int .i64 k3, .int .i64 k4, .int .i64 k5, .int .i64 k6] 67)) := (Below.refl _ wr).alloc (Nat.le_refl _) _
          have HSd : Hid (w.heap.size ≤ wr.heap.size) := Lib.hid HB.out.size
          have HNd : Hid ((wr.alloc (.cells #[.int .i64 k0, .int .i64 k1, .int .i64 k2, .int .i64 k3, .int .i64 k4, .int .i64 k5, .int .i64 k6] 67)).heap[wr.heap.size]? = some (.cells #[.int .i64 k0, .int .i64 k1, .int .i64 k2, .int .i64 k3, .int .i64 k4, .int .i64 k5, .int .i64 k6] 67 (0, 0))) := Lib.hid (heap_alloc_new _ _)
          replace HB := Lib.hid (HB.out.trans (hAlc.mono HB.out.size))
          have HXr_d : Hid (w.heap.size + 1 ≠ wr.heap.size) := Lib.hid (Nat.ne_of_lt (Array.getElem?_eq_some_iff.1 HNr.out).1)
          have HXo_d : Hid (bko ≠ wr.heap.size) := Lib.hid (Nat.ne_of_lt (Array.getElem?_eq_some_iff.1 HNo.out).1)
          replace HNr := Lib.hid ((hAlc.block _ (Array.getElem?_eq_some_iff.1 HNr.out).1).trans HNr.out)
          replace HNo := Lib.hid ((hAlc.block _ (Array.getElem?_eq_some_iff.1 HNo.out).1).trans HNo.out)
          replace HQ := Lib.hid (HQ.out.keep hAlc)
          replace HOW := Lib.hid (HOW.out.keep hAlc)
          obtain ⟨ad, had⟩ : ∃ qq, wr.alloc (.cells #[.int .i64 k0, .int .i64 k1, .int .i64 k2, .int .i64 k3, .int .i64 k4, .int .i64 k5, .int .i64 k6] 67) = qq := ⟨_, rfl⟩
          obtain ⟨bkd, hbd⟩ : ∃ qq, wr.heap.size = qq := ⟨_, rfl⟩
          rw [had] at HB HNd HNr HNo HQ HOW
          rw [hbd] at HNd HSd HXr_d HXo_d
          clear hAlc
          have zd0_8 := cellH HNd.out 0
          have zd1_8 := cellH HNd.out 1
          have zd2_8 := cellH HNd.out 2
          have zd3_8 := cellH HNd.out 3
          have zd4_8 := cellH HNd.out 4
          have zd5_8 := cellH HNd.out 5
          have zd6_8 := cellH HNd.out 6
          simp only [List.getElem?_toArray, List.getElem?_cons_zero, List.getElem?_cons_succ] at zd0_8 zd1_8 zd2_8 zd3_8 zd4_8 zd5_8 zd6_8
          go_wp2_with fail
          try clear had hbd
          refine (HHX.out _ HB.out).mono ?_
          rintro e w9 ⟨rfl, hb⟩
          clear zo0 zo1 zd0_8 zd1_8 zd2_8 zd3_8 zd4_8 zd5_8 zd6_8
          clear e0 e1 e2 e3 e4 e5 e6
          replace HB := Lib.hid (HB.out.trans (hb.mono HB.out.size))
          replace HNr := Lib.hid ((hb.block _ (Array.getElem?_eq_some_iff.1 HNr.out).1).trans HNr.out)
          replace HNo := Lib.hid ((hb.block _ (Array.getElem?_eq_some_iff.1 HNo.out).1).trans HNo.out)
          replace HNd := Lib.hid ((hb.block _ (Array.getElem?_eq_some_iff.1 HNd.out).1).trans HNd.out)
          replace HQ := Lib.hid (HQ.out.keep hb)
          replace HOW := Lib.hid (HOW.out.keep hb)
          clear hb
          cases C
          · have HN2 : Hid (woC (ks.take (k + 1)) ids = L ++ [⟨k0, k1, k2, k3, k4, k5, k6⟩]) := Lib.hid (by rw [HST.out]; rfl)
            have zo0 := cellH HNo.out 0
            have zo1 := cellH HNo.out 1
            have zd0 := cellH HNd.out 0
            have zd1 := cellH HNd.out 1
            have zd2 := cellH HNd.out 2
            have zd3 := cellH HNd.out 3
            have zd4 := cellH HNd.out 4
            have zd5 := cellH HNd.out 5
            have zd6 := cellH HNd.out 6
            simp only [List.getElem?_toArray, List.getElem?_cons_zero, List.getElem?_cons_succ] at zo0 zo1 zd0 zd1 zd2 zd3 zd4 zd5 zd6
            have zfo := freeH HNo.out
            have hO7 := World.ownsRow.alloc HOW.out (.cells #[.int .i64 k0, .int .i64 k1, .int .i64 k2, .int .i64 k3, .int .i64 k4, .int .i64 k5, .int .i64 k6] 67)
            have HNW := Lib.hid (fun j u => cell_add (heap_alloc_new w9 (.cells #[.int .i64 k0, .int .i64 k1, .int .i64 k2, .int .i64 k3, .int .i64 k4, .int .i64 k5, .int .i64 k6] 67)) j u)
            have HB7 := Lib.hid (HB.out.alloc HB.out.size (.cells #[.int .i64 k0, .int .i64 k1, .int .i64 k2, .int .i64 k3, .int .i64 k4, .int .i64 k5, .int .i64 k6] 67))
            have HQ7 := Lib.hid (HQ.out.keep ((Below.refl w9.heap.size w9).alloc (Nat.le_refl _) (.cells #[.int .i64 k0, .int .i64 k1, .int .i64 k2, .int .i64 k3, .int .i64 k4, .int .i64 k5, .int .i64 k6] 67)))
            have HNo7 := Lib.hid ((gNe w9 (.cells #[.int .i64 k0, .int .i64 k1, .int .i64 k2, .int .i64 k3, .int .i64 k4, .int .i64 k5, .int .i64 k6] 67) bko (Nat.ne_of_lt (Array.getElem?_eq_some_iff.1 HNo.out).1)).trans HNo.out)
            have HNr7 := Lib.hid ((gNe w9 (.cells #[.int .i64 k0, .int .i64 k1, .int .i64 k2, .int .i64 k3, .int .i64 k4, .int .i64 k5, .int .i64 k6] 67) (w.heap.size + 1) (Nat.ne_of_lt (Array.getElem?_eq_some_iff.1 HNr.out).1)).trans HNr.out)
            have hbase : w2.heap.size ≤ (w9.alloc (.cells #[.int .i64 k0, .int .i64 k1, .int .i64 k2, .int .i64 k3, .int .i64 k4, .int .i64 k5, .int .i64 k6] 67)).heap.size := Below.size HQ7.out
            have hln := HLN.out
            have hlen : n + 1 ≤ maxLen := by unfold maxLen; omega
            have hby : (n + 1) * 56 ≤ 140737488355328 := by omega
            go_wp2_with (at_builtin; go_loud (
              refine wpList_append_own _ rfl _ _ 23 rfl w2.heap.size 67 i0 (.agg #[.int .i64 0, .int .i64 0, .int .i64 0, .int .i64 0, .int .i64 0, .int .i64 0, .int .i64 0]) 7 56 Tryz.underlying23 hi0 hz0 hz1 hz2 rfl (by decide) _ _ _ rfl hO7 ⟨w9.heap.size, 0, none⟩ 1 1 [.int .i64 k0, .int .i64 k1, .int .i64 k2, .int .i64 k3, .int .i64 k4, .int .i64 k5, .int .i64 k6] rfl rfl HNW.out (by simp [Value.oneCell']) hlen hby hbase ?_
              intro v' w8 hown' hgrow _
              obtain ⟨ua, uc, rfl⟩ := row_formC hown'
              have HNo8 := Lib.hid ((hgrow.block _ (Array.getElem?_eq_some_iff.1 HNo7.out).1 (fun e => own_neC hO7 HNo7.out (by decide) e.symm)).trans HNo7.out)
              have HB8 := Lib.hid (HB7.out.grown hgrow HB7.out.size (fun j e => Nat.le_trans HS1.out (World.ownsRow.lt hO7 j e).1))
              have HQ8 : Hid (BlC w2 w8) := Lib.hid (Below.grown HQ7.out hgrow (Below.size HQ7.out) (fun j e => (World.ownsRow.lt hO7 j e).1))
              have HO8 := Lib.hid hown'
              have HNr8 := Lib.hid ((hgrow.block _ (Array.getElem?_eq_some_iff.1 HNr7.out).1 (fun e => own_neC hO7 HNr7.out (by decide) e.symm)).trans HNr7.out)
              have y0 := cellH HNo8.out 0
              have y1 := cellH HNo8.out 1
              have yf := freeH HNo8.out
              simp only [List.getElem?_toArray, List.getElem?_cons_zero, List.getElem?_cons_succ] at y0 y1
              clear hown' hgrow hO7 hln hlen hby hbase))
            have HNoE := Lib.hid (heap_same HNo8.out 1 (.slice ua (n + 1) uc))
            simp only [List.setIfInBounds_toArray, List.set_cons_zero, List.set_cons_succ] at HNoE
            have HNrE := Lib.hid ((heap_other w8 bko 1 (.slice ua (n + 1) uc) (w.heap.size + 1) HXr_o.out).trans HNr8.out)
            have HBE := Lib.hid (HB8.out.setCell (p := ⟨bko, 1, none⟩) HSo.out (.slice ua (n + 1) uc))
            have HQE := Lib.hid (HQ8.out.set HS2o.out 1 (.slice ua (n + 1) uc))
            have HOE := Lib.hid (own_setC HO8.out HNo8.out (by decide) 1 (.slice ua (n + 1) uc))
            go_roundw
            case rel => exact ⟨k + 1, _, HKL.out, by go_num, Lib.hid (by rw [HN2.out, List.length_append, List.flatMap_append, HNN.out]; exact HOE.out), HBE, HNrE, HNoE, HQE⟩
            case measure => have := HKL.out; simp [intOf]; omega
          · have HN2 : Hid (woC (ks.take (k + 1)) ids = L) := Lib.hid (by rw [HST.out]; rfl)
            have zo0 := cellH HNo.out 0
            have zo1 := cellH HNo.out 1
            have zd0 := cellH HNd.out 0
            have zd1 := cellH HNd.out 1
            have zd2 := cellH HNd.out 2
            have zd3 := cellH HNd.out 3
            have zd4 := cellH HNd.out 4
            have zd5 := cellH HNd.out 5
            have zd6 := cellH HNd.out 6
            simp only [List.getElem?_toArray, List.getElem?_cons_zero, List.getElem?_cons_succ] at zo0 zo1 zd0 zd1 zd2 zd3 zd4 zd5 zd6
            go_wp2_with fail
            go_roundw
            case rel => exact ⟨k + 1, _, HKL.out, by go_num, Lib.hid (by rw [HN2.out, HNN.out]; exact HOW.out), HB, HNr, HNo, HQ⟩
            case measure => have := HKL.out; simp [intOf]; omega
        · obtain rfl : k = ks.length := by omega
          rw [List.take_length] at HOW HNo
          obtain ⟨L, hL⟩ : ∃ L, woC ks ids = L := ⟨_, rfl⟩
          rw [hL] at HOW HNo
          have HLL := Lib.hid hL
          obtain ⟨n, hn⟩ : ∃ n, L.length = n := ⟨_, rfl⟩
          rw [hn] at HOW HNo
          have HKF : Hid (∀ w', World.ownsRow w' w2.heap.size 67 7 (.slice oa n oc) n (L.flatMap Ck.enc) → CkRow w' (.slice oa n oc) L) := Lib.hid (fun w' h => by rw [← hn] at h ⊢; exact CkRow.of_own h)
          clear hkl hk hm hn hL
          have zr0 := cellH HNr.out 0
          have zr1 := cellH HNr.out 1
          have zo0 := cellH HNo.out 0
          have zo1 := cellH HNo.out 1
          simp only [List.getElem?_toArray, List.getElem?_cons_zero, List.getElem?_cons_succ] at zr0 zr1 zo0 zo1
          have zfr := freeH HNr.out
          go_wp2_with fail
          obtain ⟨z1, z2⟩ := set2 HNr.out HB.out (by omega) (.slice va cs.length vc) (.slice oa n oc)
          refine bodyPost_ret (res_ct Tryz.results9 _ _ (w.heap.size + 1) 25 #[.slice va cs.length vc, .slice oa n oc] (0, 0) _ rfl z1 Tryz.underlying25 rfl info_cs2) rfl ?_
          exact ⟨z2, fun h => absurd HWZ.out h, fun _ => ⟨_, _, rfl, CiRow.of_own (own_set2 (ownBelow HCR.out HQ.out) HNr.out (by decide) _ _), (by rw [HLL.out]; exact HKF.out _ (own_set2 HOW.out HNr.out (by decide) _ _))⟩⟩
end Go.Proofs.YtebdboacmeafaaaGreat
