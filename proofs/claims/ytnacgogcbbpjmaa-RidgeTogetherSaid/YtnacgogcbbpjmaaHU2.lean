/- The order of sets of towers: fewer first, then the lesser list. -/
import Derived.Test.YtnacgogcbbpjmaaHU1
import Derived.Test.YtnacgogcbbpjmaaHV2
set_option linter.unusedVariables false
set_option linter.unusedSimpArgs false
namespace Go.Proofs.Ytnacgogcbbpjmaa
open Go Go.RowKit

/-- Whether a list is less than another one of the same length. -/
def lxB : List Int → List Int → Bool
  | a :: xs, b :: ys => if a = b then lxB xs ys else decide (a < b)
  | _, _ => false
/-- Whether a list is shorter than another one, or as long and less. -/
def bfB (a b : List Int) : Bool := if a.length = b.length then lxB a b else decide (a.length < b.length)
theorem lx_total : ∀ {a b : List Int}, a.length = b.length → lxB a b = false → lxB b a = false → a = b
  | [], [], _, _, _ => rfl
  | [], _ :: _, h, _, _ => by simp at h
  | _ :: _, [], h, _, _ => by simp at h
  | x :: xs, y :: ys, h, h1, h2 => by
    rw [lxB] at h1 h2
    by_cases e : x = y
    · subst e
      rw [if_pos rfl] at h1 h2
      rw [lx_total (by simpa using h) h1 h2]
    · rw [if_neg e] at h1
      rw [if_neg (Ne.symm e)] at h2
      simp at h1 h2
      omega
theorem lx_asym : ∀ {a b : List Int}, lxB a b = true → lxB b a = false
  | [], _, h => by simp [lxB] at h
  | _ :: _, [], h => by simp [lxB] at h
  | x :: xs, y :: ys, h => by
    rw [lxB] at h ⊢
    by_cases e : x = y
    · subst e
      rw [if_pos rfl] at h ⊢
      exact lx_asym h
    · rw [if_neg e] at h
      rw [if_neg (Ne.symm e)]
      simp at h ⊢
      omega
theorem lx_trans : ∀ {a b c : List Int}, lxB a b = true → lxB b c = true → lxB a c = true
  | [], _, _, h, _ => by simp [lxB] at h
  | _ :: _, [], _, h, _ => by simp [lxB] at h
  | _ :: _, _ :: _, [], _, h => by simp [lxB] at h
  | x :: xs, y :: ys, z :: cs, h1, h2 => by
    rw [lxB] at h1 h2 ⊢
    by_cases e : x = y
    · subst e
      rw [if_pos rfl] at h1
      by_cases e2 : x = z
      · subst e2
        rw [if_pos rfl] at h2 ⊢
        exact lx_trans h1 h2
      · rw [if_neg e2] at h2 ⊢
        exact h2
    · rw [if_neg e] at h1
      by_cases e2 : y = z
      · subst e2
        rw [if_neg e]
        exact h1
      · rw [if_neg e2] at h2
        simp at h1 h2
        rw [if_neg (by omega)]
        simp; omega
theorem bf_irr (a : List Int) : bfB a a = false := by
  unfold bfB
  rw [if_pos rfl]
  cases h : lxB a a
  · rfl
  · have := lx_asym h; rw [h] at this; cases this
theorem bf_total {a b : List Int} (h1 : bfB a b = false) (h2 : bfB b a = false) : a = b := by
  unfold bfB at h1 h2
  by_cases e : a.length = b.length
  · rw [if_pos e] at h1
    rw [if_pos e.symm] at h2
    exact lx_total e h1 h2
  · rw [if_neg e] at h1
    rw [if_neg (Ne.symm e)] at h2
    simp at h1 h2
    omega
theorem bf_asym {a b : List Int} (h : bfB a b = true) : bfB b a = false := by
  unfold bfB at h ⊢
  by_cases e : a.length = b.length
  · rw [if_pos e] at h
    rw [if_pos e.symm]
    exact lx_asym h
  · rw [if_neg e] at h
    rw [if_neg (Ne.symm e)]
    simp at h ⊢
    omega
theorem bf_trans {a b c : List Int} (h1 : bfB a b = true) (h2 : bfB b c = true) : bfB a c = true := by
  unfold bfB at h1 h2 ⊢
  by_cases e : a.length = b.length
  · rw [if_pos e] at h1
    by_cases e2 : b.length = c.length
    · rw [if_pos e2] at h2
      rw [if_pos (by omega)]
      exact lx_trans h1 h2
    · rw [if_neg e2] at h2
      rw [if_neg (by omega)]
      simp at h2 ⊢; omega
  · rw [if_neg e] at h1
    simp at h1
    by_cases e2 : b.length = c.length
    · rw [if_neg (by omega)]
      simp; omega
    · rw [if_neg e2] at h2
      simp at h2
      rw [if_neg (by omega)]
      simp; omega
/-- The lists of indices from one on, so many, in order. -/
def exI (N : Nat) : Nat → Nat → List (List Nat)
  | 0, _ => [[]]
  | left + 1, next => (List.range (N - next)).flatMap fun d => (exI N left (next + d + 1)).map ((next + d) :: ·)
def mkB (l : List Nat) : Nat := l.foldr (fun i m => 2 ^ i + m) 0
theorem exL_exI (N : Nat) : ∀ left next s, exL N left next s = (exI N left next).map fun l => s + mkB l
  | 0, next, s => by simp [exL, exI, mkB]
  | left + 1, next, s => by
    rw [exL, exI, List.map_flatMap]
    congr 1
    funext d
    rw [exL_exI N left, List.map_map]
    congr 1
    funext l
    simp [mkB, Nat.add_assoc]
def ssI (N : Nat) : List (List Nat) := (List.range (N + 1)).flatMap fun size => exI N size 0
theorem ssL_ssI (N : Nat) : ssL N = (ssI N).map mkB := by
  unfold ssL ssK ssI
  rw [List.map_flatMap]
  congr 1
  funext size
  rw [exL_exI]
  congr 1
  funext l
  simp
theorem exI_mem (N : Nat) : ∀ left next (l : List Nat), l ∈ exI N left next ↔ l.length = left ∧ l.Pairwise (· < ·) ∧ ∀ i ∈ l, next ≤ i ∧ i < N
  | 0, next, l => by
    rw [exI]
    constructor
    · intro h
      obtain rfl := List.mem_singleton.1 h
      simp
    · rintro ⟨h, _⟩
      rw [List.eq_nil_of_length_eq_zero h]; simp
  | left + 1, next, l => by
    rw [exI]
    simp only [List.mem_flatMap, List.mem_range, List.mem_map]
    constructor
    · rintro ⟨d, hd, r, hr, rfl⟩
      obtain ⟨h1, h2, h3⟩ := (exI_mem N left _ r).1 hr
      refine ⟨by simp [h1], List.pairwise_cons.2 ⟨fun i hi => ?_, h2⟩, fun i hi => ?_⟩
      · have := h3 i hi; omega
      · rcases List.mem_cons.1 hi with rfl | hi
        · omega
        · have := h3 i hi; omega
    · rintro ⟨h1, h2, h3⟩
      match l, h1, h2, h3 with
      | i :: r, h1, h2, h3 =>
        have hi := h3 i (by simp)
        refine ⟨i - next, by omega, r, ?_, by congr 1; omega⟩
        rw [exI_mem]
        obtain ⟨h4, h5⟩ := List.pairwise_cons.1 h2
        refine ⟨by simpa using h1, h5, fun j hj => ?_⟩
        have h6 := h3 j (by simp [hj])
        have h7 := h4 j hj
        omega
theorem ssI_mem (N : Nat) (l : List Nat) : l ∈ ssI N ↔ l.Pairwise (· < ·) ∧ ∀ i ∈ l, i < N := by
  unfold ssI
  simp only [List.mem_flatMap, List.mem_range, exI_mem]
  constructor
  · rintro ⟨size, hs, h1, h2, h3⟩
    exact ⟨h2, fun i hi => (h3 i hi).2⟩
  · rintro ⟨h2, h3⟩
    refine ⟨l.length, ?_, rfl, h2, fun i hi => ⟨Nat.zero_le _, h3 i hi⟩⟩
    have hb : ∀ (r : List Nat) (a : Nat), r.Pairwise (· < ·) → (∀ i ∈ r, a ≤ i ∧ i < N) → r = [] ∨ r.length + a ≤ N := by
      intro r
      induction r with
      | nil => intro _ _ _; exact .inl rfl
      | cons x r ih =>
        intro a hp hm
        obtain ⟨h4, h5⟩ := List.pairwise_cons.1 hp
        have hx := hm x (by simp)
        rcases ih (x + 1) h5 (fun i hi => ⟨by have := h4 i hi; omega, (hm i (by simp [hi])).2⟩) with rfl | h6
        · right; simp; omega
        · right; simp; omega
    rcases hb l 0 h2 (fun i hi => ⟨Nat.zero_le _, h3 i hi⟩) with rfl | h
    · simp
    · omega
theorem exI_lex {N : Nat} {f : Nat → Int} (hf : ∀ i j, i < j → j < N → f i < f j) : ∀ left next, (exI N left next).Pairwise fun a b => lxB (a.map f) (b.map f) = true
  | 0, next => by rw [exI]; simp
  | left + 1, next => by
    rw [exI, List.pairwise_flatMap]
    refine ⟨fun d hd => ?_, ?_⟩
    · rw [List.pairwise_map]
      refine (exI_lex hf left (next + d + 1)).imp fun {a b} h => ?_
      simp only [List.map_cons, lxB, if_true]
      exact h
    · refine List.Pairwise.imp_of_mem ?_ (List.pairwise_lt_range (n := N - next))
      intro d1 d2 h1 h2 hlt x hx y hy
      obtain ⟨r1, _, rfl⟩ := List.mem_map.1 hx
      obtain ⟨r2, _, rfl⟩ := List.mem_map.1 hy
      have hd2 : d2 < N - next := List.mem_range.1 h2
      have h := hf (next + d1) (next + d2) (by omega) (by omega)
      simp only [List.map_cons, lxB]
      rw [if_neg (show ¬ f (next + d1) = f (next + d2) by omega)]
      simpa using h
theorem ssI_bf {N : Nat} {f : Nat → Int} (hf : ∀ i j, i < j → j < N → f i < f j) : (ssI N).Pairwise fun a b => bfB (a.map f) (b.map f) = true := by
  unfold ssI
  rw [List.pairwise_flatMap]
  refine ⟨fun size _ => ?_, ?_⟩
  · refine List.Pairwise.imp_of_mem ?_ (exI_lex hf size 0)
    intro a b ha hb h
    have h1 := ((exI_mem N size 0 a).1 ha).1
    have h2 := ((exI_mem N size 0 b).1 hb).1
    unfold bfB
    rw [if_pos (by simp [h1, h2])]
    exact h
  · refine List.Pairwise.imp_of_mem ?_ (List.pairwise_lt_range (n := N + 1))
    intro s1 s2 _ _ hlt x hx y hy
    have h1 := ((exI_mem N s1 0 x).1 hx).1
    have h2 := ((exI_mem N s2 0 y).1 hy).1
    unfold bfB
    rw [if_neg (by simp; omega)]
    simp; omega
theorem mkB_bd : ∀ {l : List Nat} {a : Nat}, l.Pairwise (· < ·) → (∀ i ∈ l, a ≤ i) → mkB l % 2 ^ a = 0
  | [], a, _, _ => by simp [mkB]
  | i :: l, a, hp, hm => by
    obtain ⟨h1, h2⟩ := List.pairwise_cons.1 hp
    have hi := hm i (by simp)
    have h3 := mkB_bd (a := a) h2 (fun j hj => hm j (by simp [hj]))
    show (2 ^ i + mkB l) % 2 ^ a = 0
    have h4 : 2 ^ i % 2 ^ a = 0 := Nat.mod_eq_zero_of_dvd (Nat.pow_dvd_pow 2 hi)
    rw [Nat.add_mod, h3, h4]; simp
theorem mkB_bit : ∀ {l : List Nat} (hp : l.Pairwise (· < ·)) (j : Nat), (mkB l).testBit j = decide (j ∈ l)
  | [], _, j => by simp [mkB]
  | i :: l, hp, j => by
    obtain ⟨h1, h2⟩ := List.pairwise_cons.1 hp
    have h0 := mkB_bd (a := i + 1) h2 (fun k hk => h1 k hk)
    show (2 ^ i + mkB l).testBit j = _
    have hib : (mkB l).testBit i = false := by
      rw [mkB_bit h2]
      simp
      intro h; have := h1 i h; omega
    have e : 2 ^ i + mkB l = 2 ^ i ||| mkB l := by
      obtain ⟨q, hq⟩ := Nat.dvd_of_mod_eq_zero h0
      rw [hq, Nat.add_comm, Nat.or_comm]
      exact Nat.two_pow_add_eq_or_of_lt (Nat.pow_lt_pow_right (by decide) (by omega)) q
    rw [e, Nat.testBit_or, Nat.testBit_two_pow, mkB_bit h2]
    by_cases h : i = j
    · subst h; simp
    · have h' : ¬ j = i := fun h3 => h h3.symm
      simp [h, h']
theorem mkB_lt {l : List Nat} {N : Nat} (hp : l.Pairwise (· < ·)) (hm : ∀ i ∈ l, i < N) : mkB l < 2 ^ N := by
  apply Nat.lt_pow_two_of_testBit
  intro j hj
  rw [mkB_bit hp]
  simp
  intro h; have := hm j h; omega
theorem range_filter_mem {l : List Nat} {N : Nat} (hp : l.Pairwise (· < ·)) (hm : ∀ i ∈ l, i < N) : (List.range N).filter (fun i => decide (i ∈ l)) = l := by
  refine pw_ext (R := (· < ·)) (fun x y h => by omega) (List.pairwise_lt_range.sublist List.filter_sublist) hp (fun x => ?_)
  simp only [List.mem_filter, List.mem_range, decide_eq_true_eq]
  exact ⟨fun h => h.2, fun h => ⟨hm x h, h⟩⟩
theorem idK_range (L : List Tw) (f : Nat → Bool) : ∀ k, idK L f k = ((List.range k).filter f).map fun i => (L.getD i .nil).id
  | 0 => by simp [idK]
  | k + 1 => by
    rw [idK, idK_range L f k, List.range_succ, List.filter_append, List.map_append]
    by_cases h : f k = true
    · rw [if_pos h]; simp [h]
    · rw [if_neg h]; simp [h]
theorem idK_mkB {L : List Tw} {l : List Nat} (hp : l.Pairwise (· < ·)) (hm : ∀ i ∈ l, i < L.length) : idK L (mkB l).testBit L.length = l.map fun i => (L.getD i .nil).id := by
  rw [idK_range]
  congr 1
  have : (mkB l).testBit = fun i => decide (i ∈ l) := funext fun i => mkB_bit hp i
  rw [this]
  exact range_filter_mem hp hm
theorem find_first {α : Type} {p : α → Bool} {R : α → α → Prop} : ∀ {l : List α} {x : α}, l.Pairwise R → l.find? p = some x → ∀ y ∈ l, p y = true → y = x ∨ R x y
  | [], _, _, h, _, _, _ => by simp at h
  | a :: l, x, hp, h, y, hy, hpy => by
    obtain ⟨h1, h2⟩ := List.pairwise_cons.1 hp
    rw [List.find?_cons] at h
    cases ha : p a with
    | true =>
      rw [ha] at h
      simp at h
      subst h
      rcases List.mem_cons.1 hy with rfl | hy
      · exact .inl rfl
      · exact .inr (h1 y hy)
    | false =>
      rw [ha] at h
      simp at h
      rcases List.mem_cons.1 hy with rfl | hy
      · rw [ha] at hpy; cases hpy
      · exact find_first h2 (by simpa using h) y hy hpy
/-- Lists of IDs that can be returned: in strict order, of towers. -/
def CndR (T : List Tw) (R : List Int) : Prop := R.Pairwise (· < ·) ∧ ∀ x ∈ R, ∃ t ∈ T, t.id = x
/-- The towers with these IDs see all that all towers see. -/
def CovR (g : List Int) (wd : Int) (T : List Tw) (rise far : Int) (n : Nat) (R : List Int) : Prop := ∀ k, k < n → ∀ t ∈ T, seB g wd t (plI wd k) rise far = true → ∃ u ∈ T, u.id ∈ R ∧ seB g wd u (plI wd k) rise far = true
/-- The fewest towers, by their IDs. -/
def FwR (g : List Int) (wd : Int) (T : List Tw) (rise far : Int) (n : Nat) (R : List Int) : Prop := CndR T R ∧ CovR g wd T rise far n R ∧ ∀ S, CndR T S → CovR g wd T rise far n S → bfB S R = false
theorem FwR.unique {g : List Int} {wd : Int} {T : List Tw} {rise far : Int} {n : Nat} {R S : List Int} (h : FwR g wd T rise far n R) (k : FwR g wd T rise far n S) : R = S :=
  bf_total (k.2.2 R h.1 h.2.1) (h.2.2 S k.1 k.2.1)
theorem cnd_filter {T L : List Tw} (hL : Ord L T) {R : List Int} (h : CndR T R) : (L.map Tw.id).filter (fun x => decide (x ∈ R)) = R := by
  have h2 : (L.map Tw.id).Pairwise (· < ·) := by rw [List.pairwise_map]; exact hL.2
  refine pw_ext (R := (· < ·)) (fun x y h => by omega) (h2.sublist List.filter_sublist) h.1 (fun x => ?_)
  simp only [List.mem_filter, decide_eq_true_eq]
  refine ⟨fun h => h.2, fun hx => ⟨?_, hx⟩⟩
  obtain ⟨t, ht, rfl⟩ := h.2 x hx
  exact List.mem_map.2 ⟨t, hL.1.mem_iff.2 ht, rfl⟩
theorem cnd_len {T L : List Tw} (hL : Ord L T) {R : List Int} (h : CndR T R) : R.length ≤ T.length := by
  rw [← cnd_filter hL h]
  have h1 := List.length_filter_le (fun x => decide (x ∈ R)) (L.map Tw.id)
  have h2 := hL.1.length_eq
  simp at h1; omega
end Go.Proofs.Ytnacgogcbbpjmaa
