/- For RelayTimes, in plain words: as many rounds as there are stations suffice. -/
import Derived.Test.YtiboolbndfhomaaNB1
set_option linter.unusedVariables false
set_option linter.unusedSimpArgs false
namespace Go.Proofs.Ytiboolbndfhomaa

/-- A walk that visits no station twice. -/
inductive WalkV (ls : List Lk) (a : Nat) (t : Int) : List Nat → Nat → Int → Prop
  | start : WalkV ls a t [a] a t
  | step {vs : List Nat} {m d : Int} (i : Nat) : i < ls.length → WalkV ls a t vs (frN ls i) m → leaveO (lkA ls i) m = some d → toN ls i ∉ vs → WalkV ls a t (toN ls i :: vs) (toN ls i) (d + (lkA ls i).dl)
theorem WalkV.nodup {ls : List Lk} {a : Nat} {t : Int} {vs : List Nat} {s : Nat} {m : Int} (h : WalkV ls a t vs s m) : vs.Nodup := by
  induction h with
  | start => simp
  | step i _ _ _ hn ih => exact List.nodup_cons.2 ⟨hn, ih⟩
theorem WalkV.pos {ls : List Lk} {a : Nat} {t : Int} {vs : List Nat} {s : Nat} {m : Int} (h : WalkV ls a t vs s m) : 1 ≤ vs.length := by
  induction h with
  | start => simp
  | step i _ _ _ hn ih => simp
theorem WalkV.lt {st : Nat} {ls : List Lk} {a : Nat} {t : Int} (he : EndsOk st ls) (ha : a < st) {vs : List Nat} {s : Nat} {m : Int} (h : WalkV ls a t vs s m) : ∀ x ∈ vs, x < st := by
  induction h with
  | start => intro x hx; rw [List.mem_singleton.1 hx]; exact ha
  | step i hi _ _ _ ih =>
    intro x hx
    rcases List.mem_cons.1 hx with rfl | hx
    · exact (he i hi).2.1
    · exact ih x hx
theorem short : ∀ (n : Nat) (vs : List Nat), vs.Nodup → (∀ x ∈ vs, x < n) → vs.length ≤ n
  | 0, vs, _, h => by
    cases vs with
    | nil => simp
    | cons x vs => exact absurd (h x (by simp)) (by omega)
  | n + 1, vs, hn, h => by
    by_cases c : n ∈ vs
    · have h1 := short n (vs.erase n) (hn.erase n) (fun x hx => by
        have := (hn.mem_erase_iff).1 hx
        have := h x this.2
        omega)
      rw [List.length_erase_of_mem c] at h1
      omega
    · have := short n vs hn (fun x hx => by
        have h1 := h x hx
        have h2 : x ≠ n := fun e => c (e ▸ hx)
        omega)
      omega
/-- The part of a walk up to a station that it visits. -/
theorem WalkV.upto {ls : List Lk} {a : Nat} {t : Int} {vs : List Nat} {s : Nat} {m : Int} (h : WalkV ls a t vs s m) : ∀ v ∈ vs, ∃ us n, WalkV ls a t us v n ∧ n ≤ m ∧ us.length ≤ vs.length := by
  induction h with
  | start => intro v hv; rw [List.mem_singleton.1 hv]; exact ⟨_, _, .start, Int.le_refl _, Nat.le_refl _⟩
  | @step vs m d i hi hw hl hn ih =>
    intro v hv
    rcases List.mem_cons.1 hv with rfl | hv
    · exact ⟨_, _, .step i hi hw hl hn, Int.le_refl _, Nat.le_refl _⟩
    · obtain ⟨us, n, h1, h2, h3⟩ := ih v hv
      have := leaveO_bd hl
      exact ⟨us, n, h1, by omega, by simp; omega⟩
/-- Each walk can be made one that visits no station twice, and is there no later. -/
theorem Walk.simple {ls : List Lk} {a : Nat} {t : Int} {s : Nat} {m : Int} (h : Walk ls a t s m) : ∃ vs n, WalkV ls a t vs s n ∧ n ≤ m := by
  induction h with
  | start => exact ⟨_, _, .start, Int.le_refl _⟩
  | @step m d i hi hw hl ih =>
    obtain ⟨vs, n, h1, h2⟩ := ih
    obtain ⟨u, u1, u2⟩ := leaveO_mono h2 hl
    have hb := leaveO_bd u1
    by_cases c : toN ls i ∈ vs
    · obtain ⟨us, x, q1, q2, _⟩ := h1.upto _ c
      exact ⟨us, x, q1, by omega⟩
    · exact ⟨_, _, .step i hi h1 u1 c, by omega⟩
/-- The numbers are at most the minutes of all walks with at most k links. -/
def RK (ls : List Lk) (a : Nat) (t : Int) (k : Nat) (at' : List Int) : Prop := ∀ vs s m, WalkV ls a t vs s m → vs.length ≤ k + 1 → 0 ≤ at0 at' s ∧ at0 at' s ≤ m
theorem RK.shut {st : Nat} {ls : List Lk} {a : Nat} {t : Int} {at' : List Int} {by' : List Sp} (he : EndsOk st ls) (hI : Inv st ls a t at' by') (h : RK ls a t st at') : Shut ls at' := by
  intro i hi h0 d hd
  obtain ⟨e1, e2, e3⟩ := he i hi
  obtain ⟨vs, n, h1, h2⟩ := (hI.wk _ e1 h0).simple
  have hlen := short st vs h1.nodup (h1.lt he hI.al)
  have h3 := h vs _ n h1 (by omega)
  have hn : n = at0 at' (frN ls i) := by omega
  have hb := leaveO_bd hd
  by_cases c : toN ls i ∈ vs
  · obtain ⟨us, x, q1, q2, q3⟩ := h1.upto _ c
    have := h us _ x q1 (by omega)
    omega
  · rw [hn] at h1
    have := h _ _ _ (.step i hi h1 hd c) (by simp; omega)
    exact this
/-- Nowhere later. -/
def LeA (x y : List Int) : Prop := ∀ s, 0 ≤ at0 x s → 0 ≤ at0 y s ∧ at0 y s ≤ at0 x s
theorem LeA.refl (x : List Int) : LeA x x := fun s h => ⟨h, Int.le_refl _⟩
theorem LeA.trans {x y z : List Int} (h : LeA x y) (k : LeA y z) : LeA x z := fun s hs => by
  obtain ⟨h1, h2⟩ := h s hs
  obtain ⟨h3, h4⟩ := k s h1
  exact ⟨h3, by omega⟩
theorem RK.start {ls : List Lk} {a : Nat} {t : Int} {at' : List Int} (h0 : 0 ≤ at0 at' a ∧ at0 at' a ≤ t) : RK ls a t 0 at' := by
  intro vs s m h hl
  cases h with
  | start => exact h0
  | step i hi hw hd hn =>
    have := hw.pos
    simp only [List.length_cons] at hl
    omega
theorem RK.mono {ls : List Lk} {a : Nat} {t : Int} {k : Nat} {x y : List Int} (h : RK ls a t k x) (hl : LeA x y) : RK ls a t k y := fun vs s m hw hk => by
  obtain ⟨h1, h2⟩ := h vs s m hw hk
  obtain ⟨h3, h4⟩ := hl s h1
  exact ⟨h3, by omega⟩
/-- One round: each link was looked at once, in between. -/
theorem RK.round {ls : List Lk} {a : Nat} {t : Int} {k : Nat} {x y : List Int} (h : RK ls a t k x) (hr : LeA x y)
    (hl : ∀ i, i < ls.length → ∃ z z', LeA x z ∧ LeA z' y ∧ ∀ d, 0 ≤ at0 z (frN ls i) → leaveO (lkA ls i) (at0 z (frN ls i)) = some d → 0 ≤ at0 z' (toN ls i) ∧ at0 z' (toN ls i) ≤ d + (lkA ls i).dl) : RK ls a t (k + 1) y := by
  intro vs s m hw hk
  cases hw with
  | start =>
    obtain ⟨h1, h2⟩ := h _ _ _ .start (by simp)
    obtain ⟨h3, h4⟩ := hr _ h1
    exact ⟨h3, by omega⟩
  | @step us n d i hi hw hd hn =>
    obtain ⟨h1, h2⟩ := h us _ n hw (by simp at hk; omega)
    obtain ⟨z, z', q1, q2, q3⟩ := hl i hi
    obtain ⟨h3, h4⟩ := q1 _ h1
    obtain ⟨u, u1, u2⟩ := leaveO_mono (x := at0 z (frN ls i)) (y := n) (by omega) hd
    obtain ⟨h5, h6⟩ := q3 u h3 u1
    obtain ⟨h7, h8⟩ := q2 _ h5
    exact ⟨h7, by omega⟩
end Go.Proofs.Ytiboolbndfhomaa
