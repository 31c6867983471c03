/- What was sent is among the readings: in plain words; the map of words. -/
import Derived.Test.YtjbdmlpadoiicaaGreatDoorG0
import Derived.Test.YtjbdmlpadoiicaaGreatDoorE11
import Derived.Test.YtjbdmlpadoiicaaGreatDoorY4
import Derived.Test.YtjbdmlpadoiicaaGreatDoorY17
import Derived.Test.YtjbdmlpadoiicaaGreatDoorW0
import Derived.Test.YtjbdmlpadoiicaaGreatDoorW2
import Derived.Maps.Views
set_option linter.unusedVariables false
set_option linter.unusedSimpArgs false
namespace Go.Proofs.YtjbdmlpadoiicaaGreatDoor
open Go.RowKit Go.Shelf

/-- What a way makes is among what the reference grows. -/
theorem Way.grow {s r : List UInt8} {k : Nat} (h : Way s r k) : ∀ (left : Nat) (done : List UInt8), k ≤ left → done ++ r ∈ growR s left done := by
  induction h with
  | nil => intro left done _; rw [growR_nil]; simp
  | @same s r k c h ih =>
    intro left done hk
    have := ih left (done ++ [c]) hk
    rw [List.append_assoc, List.singleton_append] at this
    cases left with
    | zero => rw [growR_zero]; exact this
    | succ left => rw [growR_succ]; exact List.mem_append_left _ this
  | @lost s r k c h ih =>
    intro left done hk
    cases left with
    | zero => omega
    | succ left => rw [growR_succ]; exact List.mem_append_right _ (List.mem_append_left _ (ih left done (by omega)))
  | @twice s r k c h ih =>
    intro left done hk
    cases left with
    | zero => omega
    | succ left =>
      have := ih left (done ++ [c] ++ [c]) (by omega)
      rw [show done ++ [c] ++ [c] ++ r = done ++ c :: c :: r by simp] at this
      rw [growR_succ]; exact List.mem_append_right _ (List.mem_append_right _ (List.mem_append_left _ this))
  | @swap s r k a b h ih =>
    intro left done hk
    cases left with
    | zero => omega
    | succ left =>
      have := ih left (done ++ [b] ++ [a]) (by omega)
      rw [growR_succ]
      refine List.mem_append_right _ (List.mem_append_right _ (List.mem_append_right _ ?_))
      rw [show done ++ [b] ++ [a] ++ r = done ++ b :: a :: r by simp] at this
      exact this
theorem Way.all {s r : List UInt8} {k : Nat} (h : Way s r k) : s.all flashB = true → r.all flashB = true := by
  induction h with
  | nil => intro _; rfl
  | same c _ ih => intro hs; simp only [List.all_cons, Bool.and_eq_true] at hs ⊢; exact ⟨hs.1, ih hs.2⟩
  | lost c _ ih => intro hs; simp only [List.all_cons, Bool.and_eq_true] at hs; exact ih hs.2
  | twice c _ ih => intro hs; simp only [List.all_cons, Bool.and_eq_true] at hs ⊢; exact ⟨hs.1, hs.1, ih hs.2⟩
  | swap a b _ ih => intro hs; simp only [List.all_cons, Bool.and_eq_true] at hs ⊢; exact ⟨hs.2.1, hs.1, ih hs.2.2⟩
theorem can_res {s r : List UInt8} {m : Nat} (h : Can m s r) : r ∈ resL s m := by
  obtain ⟨k, hw, hk⟩ := h.way
  have := (mem_grow s s.length 0 m [] r (by omega)).1 (by simpa using hw.grow m [] (by omega))
  exact ((tidy_strict (outL s m)).2 r).2 this
theorem jF_none {c : Nat → Nat → Bool} {i : Nat} : ∀ (f a : Nat), jF c i f a = none → ∀ j, a ≤ j → j < a + f → c i j = false
  | 0, a, _, j, h1, h2 => by omega
  | f + 1, a, h, j, h1, h2 => by
    unfold jF at h
    split at h
    · cases h
    · rename_i hc
      by_cases e : j = a
      · subst e; simpa using hc
      · exact jF_none f (a + 1) h j (by omega) (by omega)
theorem apartF_none {c : Nat → Nat → Bool} {k : Nat} : ∀ (f a : Nat), apartF c k f a = none → ∀ i, a ≤ i → i < a + f → firstJ c k i = none
  | 0, a, _, i, h1, h2 => by omega
  | f + 1, a, h, i, h1, h2 => by
    unfold apartF at h
    split at h
    · cases h
    · rename_i hc
      by_cases e : i = a
      · subst e; exact hc
      · exact apartF_none f (a + 1) h i (by omega) (by omega)
theorem apart_none {c : Nat → Nat → Bool} {k : Nat} (hk : k ≤ 8) (h : apartO c k = none) {i j : Nat} (hij : i < j) (hj : j < k) : c i j = false :=
  jF_none _ _ (apartF_none 8 0 h i (by omega) (by omega)) j (by omega) (by omega)
theorem both_share {a b r : List UInt8} {m : Nat} (ha : r ∈ resL (signalL a) m) (hb : r ∈ resL (signalL b) m) : (confO a b m).isSome = true := by
  cases h : confO a b m with
  | none => exact absurd hb (share_none h r ha)
  | some x => rfl
/-- Where no two words can be confused, no other one is among what can have been sent. -/
theorem alone {bk : List (List UInt8)} {x y r : List UInt8} {m : Nat} (hl : bk.length ≤ 4) (ho : apartO (bookC bk m) bk.length = none) (hx : x ∈ bk) (hy : y ∈ bk) (hxy : y ≠ x) (h1 : r ∈ resL (signalL x) m) (h2 : r ∈ resL (signalL y) m) : False := by
  obtain ⟨i, hi, ei⟩ := List.getElem_of_mem hx
  obtain ⟨j, hj, ej⟩ := List.getElem_of_mem hy
  have gi : bk.getD i [] = x := by rw [List.getD_eq_getElem?_getD, List.getElem?_eq_getElem hi]; exact ei
  have gj : bk.getD j [] = y := by rw [List.getD_eq_getElem?_getD, List.getElem?_eq_getElem hj]; exact ej
  rcases Nat.lt_trichotomy i j with h | h | h
  · have := apart_none (by omega) ho h hj
    rw [bookC_at bk m h (by omega)] at this
    unfold pairB at this
    rw [gi, gj, both_share h1 h2] at this; cases this
  · subst h; exact hxy (gj.symm.trans gi)
  · have := apart_none (by omega) ho h hi
    rw [bookC_at bk m h (by omega)] at this
    unfold pairB at this
    rw [gi, gj, both_share h2 h1] at this; cases this
/-- What is known where faults that can happen make r of a word's signal. -/
theorem sent_facts {x : List UInt8} {l : List Flt} (hw : wordB x = true) (h5 : x.length ≤ 5) (hl : l.length ≤ 2) (hf : faultedE (signalL x) l = 0) :
    resE (faultedL (signalL x) l) l.length = 0 ∧ Can l.length (signalL x) (faultedL (signalL x) l) := by
  have hfs : flashE (signalL x) 100 = 0 := signal_flash hw
  have hc : canE (signalL x).length l = 0 := by unfold faultedE at hf; rwa [if_pos hfs] at hf
  obtain ⟨l', h1, h2⟩ := way_of hc
  have hcan : Can l.length (signalL x) (faultedL (signalL x) l) := ⟨l', h1, by omega⟩
  refine ⟨?_, hcan⟩
  have hlen := h1.len
  have h3 := flashL_length (textL x)
  have h4 := textL_length x
  have h6 : (signalL x).length ≤ 49 := by
    unfold signalL
    simp only [List.length_append, List.length_cons, List.length_nil]
    omega
  obtain ⟨k, hway, _⟩ := hcan.way
  have hall : (faultedL (signalL x) l).all flashB = true := by
    have hs : (signalL x).all flashB = true := by
      unfold flashE at hfs
      split at hfs
      · cases hfs
      · split at hfs
        · assumption
        · cases hfs
    exact hway.all hs
  have hfr : flashE (faultedL (signalL x) l) 100 = 0 := by unfold flashE; rw [if_neg (by omega), if_pos hall]
  unfold resE orI; rw [if_pos hfr]; unfold faultsE; split <;> omega
theorem sentBool_inv {P : Program} {e : TypeId} (he : P.underlying e = some .bool) {v : Value} {z : DataW Unit × List MemPlace} (h : plainElem (H := Unit) P e v = some z) : ∃ x, v = .bool x ∧ z = (.lit (.bool x), []) := by
  unfold plainElem at h
  rw [he] at h
  cases v <;> simp at h
  rename_i x
  exact ⟨x, rfl, h.symm⟩
theorem setD_snoc (S : List (List UInt8)) (y : List UInt8) : setD (S ++ [y]) = (setD S).put (.string y) (.lit (.bool true)) := by
  unfold setD; rw [List.map_append, List.map_singleton, Maps.setOf_snoc]
theorem setD_rev (x : List UInt8) : ∀ T : List (List UInt8), Maps.IsMap (setD T.reverse) ∧ (setD T.reverse).atKey (.string x) (.lit (.bool false)) = .lit (.bool (decide (x ∈ T.reverse)))
  | [] => ⟨Maps.isMap_empty, by
      rw [decide_eq_false (by simp)]
      exact Maps.atKey_of_not_has (by
        cases h : Maps.has (setD [].reverse) (.string x)
        · rfl
        · exact absurd ((has_set [] x).1 h) (by simp)) _⟩
  | y :: T => by
    obtain ⟨h1, h2⟩ := setD_rev x T
    rw [List.reverse_cons, setD_snoc]
    refine ⟨h1.put _ _, ?_⟩
    by_cases e : x = y
    · subst e
      rw [decide_eq_true (by simp)]
      exact Maps.atKey_put_same h1 (litKey _) _ _
    · rw [Maps.atKey_put_other (fun k => e (Lit.string.inj k)), h2]
      congr 2
      simp [e]
theorem setD_at (S : List (List UInt8)) (x : List UInt8) : (setD S).atKey (.string x) (.lit (.bool false)) = .lit (.bool (decide (x ∈ S))) := by
  have := (setD_rev x S.reverse).2
  rwa [List.reverse_reverse] at this
theorem SetAt.look {w : World} {b : Nat} {S : List (List UInt8)} (h : SetAt w b S) (x : List UInt8) (hx : x.length ≤ maxLen) :
    (Instr.lookup 59 (.map (some b)) (.string (B x)) false).run Tryz.prog w = .ok (.bool (decide (x ∈ S))) w := by
  have hkey : keyOf Tryz.prog 9 (.string (B x)) = some (.string x) := by
    have := WideMaps.keyOf_string_mk Tryz.underlying9 (s := B x) (by rw [size_B]; exact hx)
    rw [L_B] at this; exact this
  obtain ⟨v, ps, hrun, hv⟩ := World.ownsMap.lookup h (t := 59) (e := 4) lawStr Tryz.underlying59 (z := .bool false) (by kernel_rfl) (plainElem_bool Tryz.underlying4 false) hkey
  rw [setD_at] at hv
  obtain ⟨y, rfl, e⟩ := sentBool_inv Tryz.underlying4 hv
  cases e
  exact hrun

theorem SetAt.start (w : World) : SetAt (w.alloc (.map #[] 0)) w.heap.size [] := World.ownsMap_made w Tryz.prog 9 (plainElem (H := Unit) Tryz.prog 4)
theorem list_bd {L : List (List UInt8 × Int)} {r : List UInt8} {m : Int} (h : ∀ p ∈ L, p ∈ foundL m r 10) {k : Nat} (hk : k < L.length) : (L.getD k ([], 0)).2 ≤ m ∧ (L.getD k ([], 0)).1.length ≤ 10 := by
  have e : L.getD k ([], 0) = L[k] := by rw [List.getD_eq_getElem?_getD, List.getElem?_eq_getElem hk]; rfl
  rw [e]
  obtain ⟨h1, h2, h3⟩ := mem_found.1 (show (L[k].1, L[k].2) ∈ _ from h _ (List.getElem_mem hk))
  exact ⟨by rw [h3]; exact h2, (word_parts h1).2.1⟩
theorem list_up {L : List (List UInt8 × Int)} (h : L.Pairwise ltP) {k : Nat} (hk : k + 1 < L.length) : (L.getD k ([], 0)).2 ≤ (L.getD (k + 1) ([], 0)).2 := by
  have e : L.getD k ([], 0) = L[k] := by rw [List.getD_eq_getElem?_getD, List.getElem?_eq_getElem (by omega)]; rfl
  have e2 : L.getD (k + 1) ([], 0) = L[k + 1] := by rw [List.getD_eq_getElem?_getD, List.getElem?_eq_getElem hk]; rfl
  rw [e, e2]
  have := List.pairwise_iff_getElem.1 h k (k + 1) (by omega) hk (by omega)
  rcases this with h | h <;> omega

end Go.Proofs.YtjbdmlpadoiicaaGreatDoor
