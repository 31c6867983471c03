/- All that a set of outcomes holds, in plain words. -/
import Derived.Test.YtjbdmlpadoiicaaGreatDoorS9
import Derived.Test.YtjbdmlpadoiicaaGreatDoorF4
import Derived.Maps.RangeWalk
import Derived.Maps.Ext
import Derived.Maps.StringElems
import Derived.Handy
set_option linter.unusedVariables false
set_option linter.unusedSimpArgs false
namespace Go.Proofs.YtjbdmlpadoiicaaGreatDoor

/-- What grow lays into its set. -/
def growR : List UInt8 → Nat → List UInt8 → List (List UInt8)
  | [], _, out => [out]
  | x :: r, 0, out => growR r 0 (out ++ [x])
  | [x], l + 1, out => growR [] (l + 1) (out ++ [x]) ++ (growR [] l out ++ (growR [] l (out ++ [x] ++ [x]) ++ []))
  | x :: y :: r, l + 1, out => growR (y :: r) (l + 1) (out ++ [x]) ++ (growR (y :: r) l out ++ (growR (y :: r) l (out ++ [x] ++ [x]) ++ growR r l (out ++ [y] ++ [x])))
def swapR : List UInt8 → Nat → UInt8 → List UInt8 → List (List UInt8)
  | [], _, _, _ => []
  | y :: r, l, x, out => growR r l (out ++ [y] ++ [x])
theorem growR_nil (l : Nat) (out : List UInt8) : growR [] l out = [out] := by unfold growR; rfl
theorem growR_zero (x : UInt8) (r out : List UInt8) : growR (x :: r) 0 out = growR r 0 (out ++ [x]) := by rw [growR]
theorem growR_succ (x : UInt8) (r : List UInt8) (l : Nat) (out : List UInt8) : growR (x :: r) (l + 1) out = growR r (l + 1) (out ++ [x]) ++ (growR r l out ++ (growR r l (out ++ [x] ++ [x]) ++ swapR r l x out)) := by
  cases r with
  | nil => rw [growR]; rfl
  | cons y r => rw [growR]; rfl
theorem growR_len : ∀ (m : Nat) (r : List UInt8) (l : Nat) (out : List UInt8), r.length ≤ m → (growR r l out).length ≤ (3 * r.length + 1) ^ l := by
  intro m
  induction m with
  | zero =>
    intro r l out h
    obtain rfl : r = [] := List.eq_nil_of_length_eq_zero (by omega)
    simp [growR_nil]
  | succ m ih =>
    intro r l out h
    cases r with
    | nil => simp [growR_nil]
    | cons x r =>
      simp only [List.length_cons] at h
      cases l with
      | zero =>
        rw [growR_zero]
        have := ih r 0 (out ++ [x]) (by omega)
        simpa using this
      | succ l =>
        rw [growR_succ]
        have h1 := ih r (l + 1) (out ++ [x]) (by omega)
        have h2 := ih r l out (by omega)
        have h3 := ih r l (out ++ [x] ++ [x]) (by omega)
        have h4 : (swapR r l x out).length ≤ (3 * r.length + 1) ^ l := by
          cases r with
          | nil => simp [swapR]
          | cons y r =>
            have := ih r l (out ++ [y] ++ [x]) (by simp at h; omega)
            exact Nat.le_trans this (Nat.pow_le_pow_left (by simp; omega) l)
        simp only [List.length_append, List.length_cons]
        have h5 : (3 * r.length + 1) ^ l ≤ (3 * (r.length + 1) + 1) ^ l := Nat.pow_le_pow_left (by omega) l
        rw [Nat.pow_succ] at h1 ⊢
        have h6 : (3 * r.length + 1) ^ l * (3 * r.length + 1) + 3 * (3 * r.length + 1) ^ l = (3 * r.length + 1) ^ l * (3 * (r.length + 1) + 1) := by
          rw [show 3 * (r.length + 1) + 1 = (3 * r.length + 1) + 3 by omega, Nat.mul_add ((3 * r.length + 1) ^ l) (3 * r.length + 1) 3]; omega
        have h7 := Nat.mul_le_mul_right (3 * (r.length + 1) + 1) h5
        omega

theorem mem_walk_step {s : List UInt8} {left frm k : Nat} {done x : List UInt8} (h1 : frm ≤ k) (h2 : k < s.length) (h : x ∈ stepL s left frm k done) : x ∈ walkL s (left + 1) frm done := by
  rw [walkL_succ]
  refine List.mem_cons_of_mem _ (List.mem_flatMap.2 ⟨k - frm, List.mem_range.2 (by omega), ?_⟩)
  rw [show frm + (k - frm) = k by omega]; exact h
theorem mem_walk_cases {s : List UInt8} {left frm : Nat} {done x : List UInt8} (h : x ∈ walkL s (left + 1) frm done) : x = done ++ s.drop frm ∨ ∃ k, frm ≤ k ∧ k < s.length ∧ x ∈ stepL s left frm k done := by
  rw [walkL_succ] at h
  rcases List.mem_cons.1 h with h | h
  · exact .inl h
  · obtain ⟨d, hd, hx⟩ := List.mem_flatMap.1 h
    exact .inr ⟨frm + d, by omega, by have := List.mem_range.1 hd; omega, hx⟩
theorem cutL_self (s : List UInt8) (k : Nat) : cutL s k k = [] := by simp [cutL]
theorem cutL_cons (s : List UInt8) (i k : Nat) (h1 : i < k) (h2 : k ≤ s.length) : cutL s i k = s.getD i 0 :: cutL s (i + 1) k := by
  unfold cutL
  rw [List.drop_eq_getElem_cons (by omega), show k - i = (k - (i + 1)) + 1 by omega, List.take_succ_cons, List.getD_eq_getElem?_getD, List.getElem?_eq_getElem (by omega)]; rfl
theorem drop_cons' (s : List UInt8) (i : Nat) (h : i < s.length) : s.drop i = s.getD i 0 :: s.drop (i + 1) := by
  rw [List.drop_eq_getElem_cons h, List.getD_eq_getElem?_getD, List.getElem?_eq_getElem h]; rfl
/-- To begin one flash later, that flash as it is, gives nothing more. -/
theorem walk_later (s : List UInt8) : ∀ (left frm : Nat) (done : List UInt8), frm < s.length → ∀ x ∈ walkL s left (frm + 1) (done ++ [s.getD frm 0]), x ∈ walkL s left frm done := by
  intro left
  induction left with
  | zero =>
    intro frm done hf x hx
    rw [walkL_zero, List.mem_singleton] at hx
    rw [walkL_zero, List.mem_singleton, hx, drop_cons' s frm hf]; simp
  | succ left ih =>
    intro frm done hf x hx
    rcases mem_walk_cases hx with rfl | ⟨k, h1, h2, h⟩
    · rw [walkL_succ, drop_cons' s frm hf]; simp
    · have hc : done ++ [s.getD frm 0] ++ cutL s (frm + 1) k = done ++ cutL s frm k := by rw [cutL_cons s frm k (by omega) (by omega)]; simp
      unfold stepL at h
      rw [hc] at h
      rcases List.mem_append.1 h with h | h
      · split at h
        · rename_i c
          by_cases hff : firstB s frm k = true
          · refine mem_walk_step (k := k) (by omega) h2 ?_
            unfold stepL; rw [hff]; simp only [if_true]
            exact List.mem_append.2 (.inl h)
          · have hq : firstB s frm k = false := by simpa using hff
            unfold firstB at c hq
            simp only [Bool.or_eq_false_iff, decide_eq_false_iff_not, bne_eq_false_iff_eq] at hq
            simp only [Bool.or_eq_true, decide_eq_true_eq, bne_iff_ne, ne_eq, hq.2, not_true_eq_false, or_false] at c
            subst c
            have e : s.getD (frm + 1) 0 = s.getD frm 0 := by have := hq.2; simpa using this
            have hcut : cutL s frm (frm + 1) = [s.getD frm 0] := cutL_one s frm hf
            rw [hcut, cutL_one s _ h2, e] at h
            refine mem_walk_step (k := frm) (Nat.le_refl _) hf ?_
            unfold stepL
            rw [show firstB s frm frm = true by simp [firstB], cutL_self, List.append_nil, hcut]; simp only [if_true]
            refine List.mem_append.2 (.inl ?_)
            rcases List.mem_append.1 h with h | h
            · refine List.mem_append.2 (.inl (ih (frm + 1) done h2 x ?_))
              rw [e]; exact h
            · refine List.mem_append.2 (.inr (ih (frm + 1) _ h2 x ?_))
              rw [e]; exact h
        · simp at h
      · refine mem_walk_step (k := k) (by omega) h2 ?_
        unfold stepL
        exact List.mem_append.2 (.inr h)

theorem mem_swapR {s : List UInt8} {frm l : Nat} {c : UInt8} {out x : List UInt8} (h : x ∈ swapR (s.drop (frm + 1)) l c out) : frm + 1 < s.length ∧ x ∈ growR (s.drop (frm + 2)) l (out ++ [s.getD (frm + 1) 0] ++ [c]) := by
  by_cases hl : frm + 1 < s.length
  · rw [drop_cons' s (frm + 1) hl] at h
    exact ⟨hl, h⟩
  · rw [List.drop_of_length_le (by omega)] at h; simp [swapR] at h
/-- Both tell the same. -/
theorem mem_grow (s : List UInt8) : ∀ (m frm left : Nat) (done x : List UInt8), frm + m = s.length → (x ∈ growR (s.drop frm) left done ↔ x ∈ walkL s left frm done) := by
  intro m
  induction m using Nat.strongRecOn with
  | ind m ih =>
    intro frm left done x hm
    cases m with
    | zero =>
      rw [List.drop_of_length_le (by omega), growR_nil]
      cases left with
      | zero => rw [walkL_zero, List.drop_of_length_le (by omega)]; simp
      | succ left => rw [walkL_succ, List.drop_of_length_le (by omega), show s.length - frm = 0 by omega]; simp [stepsL]
    | succ m =>
      have hf : frm < s.length := by omega
      obtain ⟨c, hc⟩ : ∃ c, s.getD frm 0 = c := ⟨_, rfl⟩
      have hcut : cutL s frm (frm + 1) = [c] := by rw [cutL_one s frm hf, hc]
      cases left with
      | zero =>
        rw [drop_cons' s frm hf, hc, growR_zero, ih m (by omega) (frm + 1) 0 _ x (by omega), walkL_zero, walkL_zero, drop_cons' s frm hf, hc]; simp
      | succ left =>
        have hB := fun d => ih m (by omega) (frm + 1) left d x (by omega)
        have hA := ih m (by omega) (frm + 1) (left + 1) (done ++ [c]) x (by omega)
        rw [drop_cons' s frm hf, hc, growR_succ]
        constructor
        · intro h
          rcases List.mem_append.1 h with h | h
          · refine walk_later s (left + 1) frm done hf x ?_
            rw [hc]; exact hA.1 h
          · rcases List.mem_append.1 h with h | h
            · refine mem_walk_step (k := frm) (Nat.le_refl _) hf ?_
              unfold stepL
              rw [show firstB s frm frm = true by simp [firstB], cutL_self, List.append_nil, hcut]; simp only [if_true]
              exact List.mem_append.2 (.inl (List.mem_append.2 (.inl ((hB _).1 h))))
            · rcases List.mem_append.1 h with h | h
              · refine mem_walk_step (k := frm) (Nat.le_refl _) hf ?_
                unfold stepL
                rw [show firstB s frm frm = true by simp [firstB], cutL_self, List.append_nil, hcut]; simp only [if_true]
                exact List.mem_append.2 (.inl (List.mem_append.2 (.inr ((hB _).1 h))))
              · obtain ⟨hl, h⟩ := mem_swapR h
                have h := (ih (m - 1) (by omega) (frm + 2) left _ x (by omega)).1 h
                by_cases he : s.getD frm 0 = s.getD (frm + 1) 0
                · refine walk_mono s left frm done x (walk_later s left frm done hf x (walk_later s left (frm + 1) _ hl x ?_))
                  rw [← he, hc]
                  rw [← he, hc] at h
                  exact h
                · refine mem_walk_step (k := frm) (Nat.le_refl _) hf ?_
                  have hs : swapB s frm = true := by unfold swapB; rw [decide_eq_true hl, Bool.true_and, bne_iff_ne]; exact he
                  unfold stepL
                  rw [hs, cutL_self, List.append_nil, hcut, cutL_one s (frm + 1) hl]; simp only [if_true]
                  exact List.mem_append.2 (.inr h)
        · intro h
          rcases mem_walk_cases h with rfl | ⟨k, h1, h2, h⟩
          · refine List.mem_append.2 (.inl (hA.2 ?_))
            rw [walkL_succ, drop_cons' s frm hf, hc]; simp
          · by_cases hk : k = frm
            · subst hk
              unfold stepL at h
              rw [show firstB s k k = true by simp [firstB], cutL_self, List.append_nil, hcut] at h
              simp only [if_true] at h
              refine List.mem_append.2 (.inr ?_)
              rcases List.mem_append.1 h with h | h
              · rcases List.mem_append.1 h with h | h
                · exact List.mem_append.2 (.inl ((hB _).2 h))
                · exact List.mem_append.2 (.inr (List.mem_append.2 (.inl ((hB _).2 h))))
              · split at h
                · rename_i hs
                  have hl : k + 1 < s.length := by unfold swapB at hs; simp only [Bool.and_eq_true, decide_eq_true_eq] at hs; exact hs.1
                  rw [cutL_one s (k + 1) hl] at h
                  refine List.mem_append.2 (.inr (List.mem_append.2 (.inr ?_)))
                  rw [drop_cons' s (k + 1) hl]
                  exact (ih (m - 1) (by omega) (k + 2) left _ x (by omega)).2 h
                · simp at h
            · refine List.mem_append.2 (.inl (hA.2 (mem_walk_step (k := k) (by omega) h2 ?_)))
              have hcc : done ++ cutL s frm k = done ++ [c] ++ cutL s (frm + 1) k := by rw [cutL_cons s frm k (by omega) (by omega), hc]; simp
              unfold stepL at h ⊢
              rw [hcc] at h
              have hff : firstB s frm k = true → firstB s (frm + 1) k = true := by
                intro hq
                unfold firstB at hq ⊢
                rw [decide_eq_false hk, Bool.false_or] at hq
                rw [hq]; simp
              rcases List.mem_append.1 h with h | h
              · split at h
                · rename_i hq
                  rw [hff hq]; simp only [if_true]
                  exact List.mem_append.2 (.inl h)
                · simp at h
              · exact List.mem_append.2 (.inr h)
theorem grow_out {s : List UInt8} {n : Nat} {x : List UInt8} : x ∈ growR s n [] ↔ x ∈ outL s n := mem_grow s s.length 0 n [] x (by omega)
/-- Whatever is in order and holds what was laid into the set, that is what can become of the flashes. -/
theorem res_of_grow {s : List UInt8} {n : Nat} {ys : List (List UInt8)} (h : Strict ys) (hm : ∀ x, x ∈ ys ↔ x ∈ growR s n []) : ys = resL s n :=
  (tidy_eq h (fun x => (hm x).trans grow_out)).symm
end Go.Proofs.YtjbdmlpadoiicaaGreatDoor

/-! The reference's grow: what it lays into its set. -/
namespace Go.Proofs.YtjbdmlpadoiicaaGreatDoor
open Go.RowKit Go.Shelf

def setD (S : List (List UInt8)) : DataW Unit := Maps.setOf (.lit (.bool true)) (S.map Lit.string)
/-- Block b is a map that holds these strings, each with true. -/
def SetAt (w : World) (b : Nat) (S : List (List UInt8)) : Prop := w.ownsMap Tryz.prog 9 (plainElem (H := Unit) Tryz.prog 4) b S.length (setD S)
theorem lawStr : Maps.Keyed Tryz.prog 9 := Maps.string_keyed Tryz.underlying9
theorem SetAt.of {w : World} {b : Nat} {S : List (List UInt8)} {x : List UInt8} (h : w.ownsMap Tryz.prog 9 (plainElem (H := Unit) Tryz.prog 4) b (S.length + 1) ((setD S).put (.string x) (.lit (.bool true)))) : SetAt w b (S ++ [x]) := by
  unfold SetAt setD
  rw [List.map_append, List.map_singleton, Maps.setOf_snoc, List.length_append]; exact h

set_option maxRecDepth 100000 in
set_option maxHeartbeats 1000000 in
theorem grow_any (s : List UInt8) (hs : s.length ≤ 100) (b : Nat) : ∀ (m k left : Nat) (out : List UInt8) (S : List (List UInt8)) (w : World) (a t : Int) (so : ByteArray), k + m = s.length → left ≤ 2 → out.length + 2 * m ≤ 1000 →
    S.length + (growR (s.drop k) left out).length ≤ 1000000 → SetAt w b S → a = (k : Int) → t = (left : Int) → so = B out →
    Calls Tryz.prog 117 #[.map (some b), .string (B s), .int .i64 a, .string so, .int .i64 t] w fun e w' => e = .returned (.tuple #[]) ∧ SetAt w' b (S ++ growR (s.drop k) left out) ∧ w.grownBy w' (some b) := by
  intro m
  induction m using Nat.strongRecOn with
  | ind m ih =>
    intro k left out S w a t so hm hl2 hout hN hS ha ht hso
    subst ha ht hso
    cases m with
    | zero =>
      have hd : s.drop k = [] := List.drop_of_length_le (by omega)
      rw [hd, growR_nil] at hN ⊢
      have hz : ((k : Int) == (s.length : Int)) = true := by simp; omega
      have hown : w.ownsMap Tryz.prog 9 (plainElem (H := Unit) Tryz.prog 4) b S.length (setD S) := hS
      have hroom : S.length < maxLen := by simp at hN; unfold maxLen; omega
      have hkey : keyOf Tryz.prog 9 (.string (B out)) = some (.string out) := by
        have := WideMaps.keyOf_string_mk Tryz.underlying9 (s := B out) (by rw [size_B]; unfold maxLen; omega)
        rw [L_B] at this; exact this
      have hval : plainElem (H := Unit) Tryz.prog 4 (.bool true) = some (.lit (.bool true), []) := plainElem_bool Tryz.underlying4 true
      have HO := Lib.hid hown
      have HK := Lib.hid hkey
      have HV := Lib.hid hval
      clear ih hN hS hd hm hown hkey hval
      go_enter Tryz.func117, Tryz.ntmps117
      go_wp2_with (at_mapUpdate; refine wpList_mapUpdate_own _ rfl _ _ _ 59 rfl 9 4 lawStr Tryz.underlying59 _ b S.length (setD S) rfl HO.out hroom _ _ (.string out) rfl rfl HK.out (.lit (.bool true)) [] HV.out ?_; intro w1 hown1 hgrow1)
      (try simp only [Exit.inBlock, Exit.then])
      refine bodyPost_ret (results_none rfl _ _ _) rfl ?_
      exact ⟨rfl, SetAt.of hown1, hgrow1⟩
    | succ m =>
      have hk : k < s.length := by omega
      obtain ⟨c, hc⟩ : ∃ c, s.getD k 0 = c := ⟨_, rfl⟩
      have hcut : ∀ W', (Instr.slice 9 (.string (B s)) (some (.int .i64 (k : Int))) (some (.int .i64 ((k : Int) + 1))) none).run Tryz.prog W' = .ok (.string (B [c])) W' := fun W' =>
        sslice_run W' s [c] k (k + 1) (by omega) (by omega) (by rw [cut1 s k hk, hc]) _ _ rfl (by omega)
      rw [drop_cons' s k hk, hc] at hN ⊢
      have hz : ((k : Int) == (s.length : Int)) = false := by simp; omega
      have hol : out.length ≤ 1000 := by omega
      have ha1 : ¬ 9223372036854775807 < out.length + 1 := by omega
      have ha2 : ¬ 9223372036854775807 < out.length + 1 + 1 := by omega
      cases left with
      | zero =>
        rw [growR_zero] at hN ⊢
        have H1 : Hid (∀ (a t : Int) (so : ByteArray), a = ((k + 1 : Nat) : Int) → t = ((0 : Nat) : Int) → so = B (out ++ [c]) → _) := Lib.hid (fun a t so h1 h2 h3 => ih m (by omega) (k + 1) 0 (out ++ [c]) S w a t so (by omega) (by omega) (by simp; omega) hN hS h1 h2 h3)
        clear ih hN hS
        go_enter Tryz.func117, Tryz.ntmps117
        go_wp2_with fail
        refine (H1.out _ _ _ (by omega) (by omega) (by rw [B_add])).mono ?_
        rintro e w1 ⟨rfl, hS1, hg1⟩
        go_wp2_with fail
        (try simp only [Exit.inBlock, Exit.then])
        refine bodyPost_ret (results_none rfl _ _ _) rfl ?_
        exact ⟨rfl, hS1, hg1⟩
      | succ left =>
        rw [growR_succ] at hN ⊢
        simp only [List.length_append] at hN
        have hz2 : (((left : Int) + 1) == 0) = false := by simp; omega
        have hl1 : left ≤ 1 := by omega
        have H1 : Hid (∀ (S' : List (List UInt8)) (w' : World) (a t : Int) (so : ByteArray), S'.length + (growR (s.drop (k + 1)) (left + 1) (out ++ [c])).length ≤ 1000000 → SetAt w' b S' → a = ((k + 1 : Nat) : Int) → t = ((left + 1 : Nat) : Int) → so = B (out ++ [c]) → _) := Lib.hid (fun S' w' a t so h0 hS' h1 h2 h3 => ih m (by omega) (k + 1) (left + 1) (out ++ [c]) S' w' a t so (by omega) (by omega) (by simp; omega) h0 hS' h1 h2 h3)
        have H2 : Hid (∀ (S' : List (List UInt8)) (w' : World) (a t : Int) (so : ByteArray), S'.length + (growR (s.drop (k + 1)) left out).length ≤ 1000000 → SetAt w' b S' → a = ((k + 1 : Nat) : Int) → t = (left : Int) → so = B out → _) := Lib.hid (fun S' w' a t so h0 hS' h1 h2 h3 => ih m (by omega) (k + 1) left out S' w' a t so (by omega) (by omega) (by omega) h0 hS' h1 h2 h3)
        have H3 : Hid (∀ (S' : List (List UInt8)) (w' : World) (a t : Int) (so : ByteArray), S'.length + (growR (s.drop (k + 1)) left (out ++ [c] ++ [c])).length ≤ 1000000 → SetAt w' b S' → a = ((k + 1 : Nat) : Int) → t = (left : Int) → so = B (out ++ [c] ++ [c]) → _) := Lib.hid (fun S' w' a t so h0 hS' h1 h2 h3 => ih m (by omega) (k + 1) left (out ++ [c] ++ [c]) S' w' a t so (by omega) (by omega) (by simp; omega) h0 hS' h1 h2 h3)
        have HN := Lib.hid hN
        have HS := Lib.hid hS
        by_cases hq : k + 1 < s.length
        · obtain ⟨y, hy⟩ : ∃ y, s.getD (k + 1) 0 = y := ⟨_, rfl⟩
          have hsw : swapR (s.drop (k + 1)) left c out = growR (s.drop (k + 2)) left (out ++ [y] ++ [c]) := by rw [drop_cons' s (k + 1) hq, hy]; rfl
          have hcut2 : ∀ W', (Instr.slice 9 (.string (B s)) (some (.int .i64 ((k : Int) + 1))) (some (.int .i64 ((k : Int) + 2))) none).run Tryz.prog W' = .ok (.string (B [y])) W' := fun W' =>
            sslice_run W' s [y] (k + 1) (k + 2) (by omega) (by omega) (by rw [cut1 s (k + 1) hq, hy]) _ _ (by omega) (by omega)
          have H4 : Hid (∀ (S' : List (List UInt8)) (w' : World) (a t : Int) (so : ByteArray), S'.length + (growR (s.drop (k + 2)) left (out ++ [y] ++ [c])).length ≤ 1000000 → SetAt w' b S' → a = ((k + 2 : Nat) : Int) → t = (left : Int) → so = B (out ++ [y] ++ [c]) → _) := Lib.hid (fun S' w' a t so h0 hS' h1 h2 h3 => ih (m - 1) (by omega) (k + 2) left (out ++ [y] ++ [c]) S' w' a t so (by omega) (by omega) (by simp; omega) h0 hS' h1 h2 h3)
          have hlt : ((k : Int) + 1) < s.length := by omega
          have HSW := Lib.hid hsw
          clear ih hN hS hsw hy
          go_enter Tryz.func117, Tryz.ntmps117
          go_wp2_with fail
          refine (H1.out S w _ _ _ (by have := HN.out; omega) HS.out (by omega) (by omega) (by rw [B_add])).mono ?_
          rintro e w1 ⟨rfl, hS1, hg1⟩
          have HS1 := Lib.hid hS1; have HG1 := Lib.hid hg1
          clear hS1 hg1
          go_wp2_with fail
          refine (H2.out _ w1 _ _ _ (by have := HN.out; simp only [List.length_append]; omega) HS1.out (by omega) (by omega) rfl).mono ?_
          rintro e w2 ⟨rfl, hS2, hg2⟩
          have HS2 := Lib.hid hS2; have HG2 := Lib.hid hg2
          clear hS2 hg2
          go_wp2_with fail
          refine (H3.out _ w2 _ _ _ (by have := HN.out; simp only [List.length_append]; omega) HS2.out (by omega) (by omega) (by simp only [B_add])).mono ?_
          rintro e w3 ⟨rfl, hS3, hg3⟩
          have HS3 := Lib.hid hS3; have HG3 := Lib.hid hg3
          clear hS3 hg3
          go_wp2_with fail
          refine (H4.out _ w3 _ _ _ (by have := HN.out; rw [HSW.out] at this; simp only [List.length_append]; omega) HS3.out (by omega) (by omega) (by simp only [B_add])).mono ?_
          rintro e w4 ⟨rfl, hS4, hg4⟩
          have HS4 := Lib.hid hS4; have HG4 := Lib.hid hg4
          clear hS4 hg4
          go_wp2_with fail
          refine bodyPost_end (results_none rfl _ _ _) rfl ?_
          refine ⟨rfl, ?_, ((HG1.out.trans HG2.out).trans HG3.out).trans HG4.out⟩
          have := HS4.out
          rw [HSW.out]
          simpa only [List.append_assoc] using this
        · have hsw : swapR (s.drop (k + 1)) left c out = [] := by rw [List.drop_of_length_le (by omega)]; rfl
          have hlt : decide (((k : Int) + 1) < s.length) = false := decide_eq_false (by omega)
          have HSW := Lib.hid hsw
          clear ih hN hS hsw
          go_enter Tryz.func117, Tryz.ntmps117
          go_wp2_with fail
          refine (H1.out S w _ _ _ (by have := HN.out; omega) HS.out (by omega) (by omega) (by rw [B_add])).mono ?_
          rintro e w1 ⟨rfl, hS1, hg1⟩
          have HS1 := Lib.hid hS1; have HG1 := Lib.hid hg1
          clear hS1 hg1
          go_wp2_with fail
          refine (H2.out _ w1 _ _ _ (by have := HN.out; simp only [List.length_append]; omega) HS1.out (by omega) (by omega) rfl).mono ?_
          rintro e w2 ⟨rfl, hS2, hg2⟩
          have HS2 := Lib.hid hS2; have HG2 := Lib.hid hg2
          clear hS2 hg2
          go_wp2_with fail
          refine (H3.out _ w2 _ _ _ (by have := HN.out; simp only [List.length_append]; omega) HS2.out (by omega) (by omega) (by simp only [B_add])).mono ?_
          rintro e w3 ⟨rfl, hS3, hg3⟩
          have HS3 := Lib.hid hS3; have HG3 := Lib.hid hg3
          clear hS3 hg3
          go_wp2_with fail
          refine bodyPost_end (results_none rfl _ _ _) rfl ?_
          refine ⟨rfl, ?_, (HG1.out.trans HG2.out).trans HG3.out⟩
          have := HS3.out
          rw [HSW.out, List.append_nil]
          simpa only [List.append_assoc] using this
end Go.Proofs.YtjbdmlpadoiicaaGreatDoor
