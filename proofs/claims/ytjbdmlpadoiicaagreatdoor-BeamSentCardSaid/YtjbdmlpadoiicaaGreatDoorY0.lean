/- Books in plain words: which words can be confused, the first two of them, the largest choice. -/
import Derived.Test.YtjbdmlpadoiicaaGreatDoorU4
import Derived.Laws.Bits64b
import Derived.Test.YtjbdmlpadoiicaaGreatDoorU0
set_option linter.unusedVariables false
set_option linter.unusedSimpArgs false
namespace Go.Proofs.YtjbdmlpadoiicaaGreatDoor
open Go.RowKit Go.Shelf

def cT (a b c d e f : Bool) : Nat → Nat → Bool
  | 0, 1 => a
  | 0, 2 => b
  | 0, 3 => c
  | 1, 2 => d
  | 1, 3 => e
  | 2, 3 => f
  | _, _ => false
def pairB (l : List (List UInt8)) (n : Nat) (i j : Nat) : Bool := (confO (l.getD i []) (l.getD j []) n).isSome
/-- Which words of a book of at most four can be confused. -/
def bookC (l : List (List UInt8)) (n : Nat) : Nat → Nat → Bool := cT (pairB l n 0 1) (pairB l n 0 2) (pairB l n 0 3) (pairB l n 1 2) (pairB l n 1 3) (pairB l n 2 3)
theorem bookC_at (l : List (List UInt8)) (n : Nat) {i j : Nat} (h : i < j) (h4 : j < 4) : bookC l n i j = pairB l n i j := by
  rcases (by omega : (i = 0 ∧ j = 1) ∨ (i = 0 ∧ j = 2) ∨ (i = 0 ∧ j = 3) ∨ (i = 1 ∧ j = 2) ∨ (i = 1 ∧ j = 3) ∨ (i = 2 ∧ j = 3)) with ⟨rfl, rfl⟩ | ⟨rfl, rfl⟩ | ⟨rfl, rfl⟩ | ⟨rfl, rfl⟩ | ⟨rfl, rfl⟩ | ⟨rfl, rfl⟩ <;> rfl

/-- The words below k that can be confused with i, as bits. -/
def maskN (c : Nat → Nat → Bool) : Nat → Nat → Nat
  | 0, _ => 0
  | k + 1, i => if i < k ∧ c i k = true then maskN c k i ||| 2 ^ k else maskN c k i
theorem maskN_lt (c : Nat → Nat → Bool) : ∀ k i, maskN c k i < 2 ^ k
  | 0, _ => by simp [maskN]
  | k + 1, i => by
    have h := maskN_lt c k i
    have h2 : (2 : Nat) ^ (k + 1) = 2 ^ k + 2 ^ k := by rw [Nat.pow_succ]; omega
    have h0 : 0 < (2 : Nat) ^ k := Nat.pow_pos (by omega)
    unfold maskN
    split
    · exact Nat.or_lt_two_pow (by omega) (by omega)
    · omega
theorem maskN_bit (c : Nat → Nat → Bool) (i j : Nat) : ∀ k, (maskN c k i).testBit j = (decide (i < j) && c i j && decide (j < k))
  | 0 => by simp [maskN]
  | k + 1 => by
    have h := maskN_bit c i j k
    unfold maskN
    by_cases e : j = k
    · subst e
      split
      · rename_i hc
        rw [Nat.testBit_or, h, Nat.testBit_two_pow]; simp [hc.1, hc.2]
      · rename_i hc
        rw [h]
        by_cases h1 : i < j
        · have : c i j = false := by
            cases hcc : c i j
            · rfl
            · exact absurd ⟨h1, hcc⟩ hc
          simp [this]
        · simp [h1]
    · have hk : decide (j < k + 1) = decide (j < k) := decide_eq_decide.2 (by omega)
      rw [hk]
      split
      · rw [Nat.testBit_or, h, Nat.testBit_two_pow, decide_eq_false (by omega : ¬ k = j), Bool.or_false]
      · exact h
theorem maskN_hi (c : Nat → Nat → Bool) : ∀ k i, k ≤ i + 1 → maskN c k i = 0
  | 0, _, _ => rfl
  | k + 1, i, h => by unfold maskN; rw [if_neg (by omega), maskN_hi c k i (by omega)]

/-- The first word behind i that can be confused with it. -/
def jF (c : Nat → Nat → Bool) (i : Nat) : Nat → Nat → Option Nat
  | 0, _ => none
  | f + 1, j => if c i j = true then some j else jF c i f (j + 1)
def firstJ (c : Nat → Nat → Bool) (k i : Nat) : Option Nat := jF c i (k - (i + 1)) (i + 1)
def apartF (c : Nat → Nat → Bool) (k : Nat) : Nat → Nat → Option (Nat × Nat)
  | 0, _ => none
  | f + 1, i => match firstJ c k i with
    | some j => some (i, j)
    | none => apartF c k f (i + 1)
def apartO (c : Nat → Nat → Bool) (k : Nat) : Option (Nat × Nat) := apartF c k 8 0
theorem apartF_hi (c : Nat → Nat → Bool) (k : Nat) : ∀ f i, k ≤ i + 1 → apartF c k f i = none
  | 0, _, _ => rfl
  | f + 1, i, h => by
    have : firstJ c k i = none := by unfold firstJ; rw [show k - (i + 1) = 0 by omega]; rfl
    unfold apartF; rw [this]; exact apartF_hi c k f (i + 1) (by omega)
def tzN (m : Nat) : Nat := if m % 2 = 1 then 0 else if m % 4 ≠ 0 then 1 else if m % 8 ≠ 0 then 2 else 3
theorem mask_first (c : Nat → Nat → Bool) {k i : Nat} (hk : k ≤ 4) : firstJ c k i = if maskN c k i = 0 then none else some (tzN (maskN c k i)) := by
  by_cases hi : k ≤ i + 1
  · rw [maskN_hi c k i hi, if_pos rfl]; unfold firstJ; rw [show k - (i + 1) = 0 by omega]; rfl
  · rcases (by omega : (k = 2 ∧ i = 0) ∨ (k = 3 ∧ i = 0) ∨ (k = 3 ∧ i = 1) ∨ (k = 4 ∧ i = 0) ∨ (k = 4 ∧ i = 1) ∨ (k = 4 ∧ i = 2)) with ⟨rfl, rfl⟩ | ⟨rfl, rfl⟩ | ⟨rfl, rfl⟩ | ⟨rfl, rfl⟩ | ⟨rfl, rfl⟩ | ⟨rfl, rfl⟩
    · cases h1 : c 0 1 <;> simp [firstJ, jF, maskN, tzN, h1]
    · cases h1 : c 0 1 <;> cases h2 : c 0 2 <;> simp [firstJ, jF, maskN, tzN, h1, h2]
    · cases h1 : c 1 2 <;> simp [firstJ, jF, maskN, tzN, h1]
    · cases h1 : c 0 1 <;> cases h2 : c 0 2 <;> cases h3 : c 0 3 <;> simp [firstJ, jF, maskN, tzN, h1, h2, h3]
    · cases h2 : c 1 2 <;> cases h3 : c 1 3 <;> simp [firstJ, jF, maskN, tzN, h2, h3]
    · cases h3 : c 2 3 <;> simp [firstJ, jF, maskN, tzN, h3]

/-- No two of these words can be confused. -/
def sepB (c : Nat → Nat → Bool) (l : List Nat) : Bool := l.all fun i => l.all fun j => !(decide (i < j) && c i j)
def setN (l : List Nat) : Nat := l.foldl (fun m i => m ||| 2 ^ i) 0
theorem setN_snoc (l : List Nat) (i : Nat) : setN (l ++ [i]) = setN l ||| 2 ^ i := by unfold setN; rw [List.foldl_append]; rfl
theorem setN_bit (j : Nat) (l : List Nat) : (setN l).testBit j = decide (j ∈ l) := by
  have key : ∀ (l : List Nat) (m : Nat), (l.foldl (fun m i => m ||| 2 ^ i) m).testBit j = (m.testBit j || decide (j ∈ l)) := by
    intro l
    induction l with
    | nil => intro m; simp
    | cons x l ih =>
      intro m
      rw [List.foldl_cons, ih, Nat.testBit_or, Nat.testBit_two_pow]
      by_cases e : x = j
      · subst e; simp
      · have e' : ¬ j = x := fun h => e h.symm
        simp [e, e', List.mem_cons]
  unfold setN; rw [key]; simp
theorem setN_lt (l : List Nat) (h : ∀ x ∈ l, x < 4) : setN l < 16 := by
  have key : ∀ (l : List Nat) (m : Nat), m < 2 ^ 4 → (∀ x ∈ l, x < 4) → l.foldl (fun m i => m ||| 2 ^ i) m < 2 ^ 4 := by
    intro l
    induction l with
    | nil => intro m hm _; exact hm
    | cons x l ih =>
      intro m hm hx
      rw [List.foldl_cons]
      exact ih _ (Nat.or_lt_two_pow hm (Nat.pow_lt_pow_right (by omega) (hx x (by simp)))) (fun y hy => hx y (by simp [hy]))
  exact key l 0 (by omega) h
/-- What separate asks of one word. -/
def meetB (c : Nat → Nat → Bool) (l : List Nat) (i : Nat) : Bool := l.any fun j => decide (i < j) && c i j
theorem and_meet (c : Nat → Nat → Bool) {k : Nat} {l : List Nat} (hl : ∀ x ∈ l, x < k) (i : Nat) : (maskN c k i &&& setN l = 0) ↔ meetB c l i = false := by
  constructor
  · intro h
    unfold meetB
    rw [List.any_eq_false]
    intro j hj hc
    have hb : (maskN c k i &&& setN l).testBit j = true := by
      rw [Nat.testBit_and, maskN_bit, setN_bit, decide_eq_true hj, decide_eq_true (hl j hj)]
      simpa using hc
    rw [h, Nat.zero_testBit] at hb; cases hb
  · intro h
    apply Nat.eq_of_testBit_eq
    intro j
    rw [Nat.zero_testBit, Nat.testBit_and, maskN_bit, setN_bit]
    by_cases hj : j ∈ l
    · unfold meetB at h
      rw [List.any_eq_false] at h
      have := h j hj
      cases hc : (decide (i < j) && c i j)
      · simp
      · exact absurd hc this
    · simp [hj]
theorem sep_meet (c : Nat → Nat → Bool) (l : List Nat) : sepB c l = l.all fun i => !meetB c l i := by
  unfold sepB meetB
  congr 1
  funext i
  rw [List.not_any_eq_all_not]
theorem sep_snoc (c : Nat → Nat → Bool) (l : List Nat) (i : Nat) (h : ∀ x ∈ l, x < i) : sepB c (l ++ [i]) = (sepB c l && l.all fun t => !c t i) := by
  rw [Bool.eq_iff_iff]
  simp only [sepB, List.all_append, List.all_cons, List.all_nil, Bool.and_true, Bool.and_eq_true, List.all_eq_true, Bool.not_eq_true', Bool.and_eq_false_imp, decide_eq_true_eq]
  constructor
  · rintro ⟨h1, h2⟩
    exact ⟨fun x hx y hy => (h1 x hx).1 y hy, fun x hx => (h1 x hx).2 (h x hx)⟩
  · rintro ⟨h1, h2⟩
    exact ⟨fun x hx => ⟨h1 x hx, fun _ => h2 x hx⟩, fun y hy hlt => by have := h y hy; omega, fun hlt => by omega⟩

def nextN (l : List Nat) : Nat := match l.getLast? with
  | none => 0
  | some x => x + 1
/-- All choices of m more indices below n, behind those of l. -/
def extL (n : Nat) : Nat → List Nat → List (List Nat)
  | 0, l => [l]
  | m + 1, l => (List.range (n - nextN l)).flatMap fun d => extL n m (l ++ [nextN l + d])
def stepsE (n m : Nat) (l : List Nat) (t : Nat) : List (List Nat) := (List.range t).flatMap fun d => extL n m (l ++ [nextN l + d])
theorem stepsE_succ (n m : Nat) (l : List Nat) (t : Nat) : stepsE n m l (t + 1) = stepsE n m l t ++ extL n m (l ++ [nextN l + t]) := by
  unfold stepsE; rw [List.range_succ, List.flatMap_append]; simp
theorem extL_succ (n m : Nat) (l : List Nat) : extL n (m + 1) l = stepsE n m l (n - nextN l) := rfl
theorem stepsE_mono (n m : Nat) (l : List Nat) {s t : Nat} (h : s ≤ t) : stepsE n m l s <+: stepsE n m l t := by
  induction t with
  | zero => obtain rfl : s = 0 := by omega
            exact List.prefix_refl _
  | succ t ih =>
    by_cases e : s = t + 1
    · subst e; exact List.prefix_refl _
    · exact (ih (by omega)).trans (by rw [stepsE_succ]; exact List.prefix_append _ _)
def pickS (c : Nat → Nat → Bool) (k : Nat) : Nat → List Nat
  | 0 => []
  | s + 1 => match (extL k (s + 1) []).find? (sepB c) with
    | some l => l
    | none => pickS c k s

def beforeL : List Nat → List Nat → Bool
  | a :: l, b :: m => if a ≠ b then decide (a < b) else beforeL l m
  | _, _ => false
def beforeB (a b : List Nat) : Bool := if a.length ≠ b.length then decide (b.length < a.length) else beforeL a b
def someL (k set : Nat) : List Nat := (List.range k).filter fun i => !decide (set / 2 ^ i % 2 = 0)
theorem someL_succ (k set : Nat) : someL (k + 1) set = if set / 2 ^ k % 2 = 0 then someL k set else someL k set ++ [k] := by
  unfold someL
  rw [List.range_succ, List.filter_append]
  by_cases h : set / 2 ^ k % 2 = 0
  · rw [if_pos h]; simp [h]
  · rw [if_neg h]; simp [h]
theorem someL_lt {k set x : Nat} (h : x ∈ someL k set) : x < k := by
  unfold someL at h; exact List.mem_range.1 (List.mem_filter.1 h).1
def bigR (c : Nat → Nat → Bool) (k : Nat) : Nat → List Nat
  | 0 => []
  | s + 1 => if (sepB c (someL k s) && beforeB (someL k s) (bigR c k s)) = true then someL k s else bigR c k s
set_option maxRecDepth 100000 in
theorem big_same : ∀ k, k < 5 → ∀ a b c d e f : Bool, bigR (cT a b c d e f) k (2 ^ k) = pickS (cT a b c d e f) k k := by decide +kernel
end Go.Proofs.YtjbdmlpadoiicaaGreatDoor

/-! TrailingZeros of a small number. -/
namespace Go.Proofs.YtjbdmlpadoiicaaGreatDoor
open Go.RowKit Go.Shelf

/-- What the table of math/bits holds where small numbers look. -/
structure Tz (w : World) : Prop where
  lt : 2 < w.heap.size
  c0 : w.cell? ⟨2, 0, none⟩ = some (.int .u8 0)
  c1 : w.cell? ⟨2, 1, none⟩ = some (.int .u8 1)
  c2 : w.cell? ⟨2, 3, none⟩ = some (.int .u8 2)
  c3 : w.cell? ⟨2, 7, none⟩ = some (.int .u8 3)
theorem Tz.below {w w' : World} (h : Tz w) (hb : Below w.heap.size w w') : Tz w' :=
  ⟨Nat.lt_of_lt_of_le h.lt hb.size, (hb.cell (p := ⟨2, 0, none⟩) h.lt).trans h.c0, (hb.cell (p := ⟨2, 1, none⟩) h.lt).trans h.c1, (hb.cell (p := ⟨2, 3, none⟩) h.lt).trans h.c2, (hb.cell (p := ⟨2, 7, none⟩) h.lt).trans h.c3⟩

theorem tz64_1 (w : World) (hT : Tz w) : Calls Tryz.prog 87 #[.int .u64 1] w fun e w' => e = .returned (.int .i64 0) ∧ w = w' := by
  have c0 := hT.c0
  have h1 : bits BinOp.and IntKind.u64 1 (IntKind.u64.wrap (-1)) = 1 := by kernel_rfl
  have h2 : IntKind.u64.wrap 285870213051353865 = 285870213051353865 := by kernel_rfl
  clear hT
  go_enter Tryz.func87, Tryz.ntmps87
  go_wp2_with fail
  go_ret
  exact ⟨rfl, rfl⟩
theorem tz64_2 (w : World) (hT : Tz w) : Calls Tryz.prog 87 #[.int .u64 2] w fun e w' => e = .returned (.int .i64 1) ∧ w = w' := by
  have c0 := hT.c1
  have h1 : bits BinOp.and IntKind.u64 2 (IntKind.u64.wrap (-2)) = 2 := by kernel_rfl
  have h2 : IntKind.u64.wrap 571740426102707730 = 571740426102707730 := by kernel_rfl
  clear hT
  go_enter Tryz.func87, Tryz.ntmps87
  go_wp2_with fail
  go_ret
  exact ⟨rfl, rfl⟩
theorem tz64_3 (w : World) (hT : Tz w) : Calls Tryz.prog 87 #[.int .u64 3] w fun e w' => e = .returned (.int .i64 0) ∧ w = w' := by
  have c0 := hT.c0
  have h1 : bits BinOp.and IntKind.u64 3 (IntKind.u64.wrap (-3)) = 1 := by kernel_rfl
  have h2 : IntKind.u64.wrap 285870213051353865 = 285870213051353865 := by kernel_rfl
  clear hT
  go_enter Tryz.func87, Tryz.ntmps87
  go_wp2_with fail
  go_ret
  exact ⟨rfl, rfl⟩
theorem tz64_4 (w : World) (hT : Tz w) : Calls Tryz.prog 87 #[.int .u64 4] w fun e w' => e = .returned (.int .i64 2) ∧ w = w' := by
  have c0 := hT.c2
  have h1 : bits BinOp.and IntKind.u64 4 (IntKind.u64.wrap (-4)) = 4 := by kernel_rfl
  have h2 : IntKind.u64.wrap 1143480852205415460 = 1143480852205415460 := by kernel_rfl
  clear hT
  go_enter Tryz.func87, Tryz.ntmps87
  go_wp2_with fail
  go_ret
  exact ⟨rfl, rfl⟩
theorem tz64_5 (w : World) (hT : Tz w) : Calls Tryz.prog 87 #[.int .u64 5] w fun e w' => e = .returned (.int .i64 0) ∧ w = w' := by
  have c0 := hT.c0
  have h1 : bits BinOp.and IntKind.u64 5 (IntKind.u64.wrap (-5)) = 1 := by kernel_rfl
  have h2 : IntKind.u64.wrap 285870213051353865 = 285870213051353865 := by kernel_rfl
  clear hT
  go_enter Tryz.func87, Tryz.ntmps87
  go_wp2_with fail
  go_ret
  exact ⟨rfl, rfl⟩
theorem tz64_6 (w : World) (hT : Tz w) : Calls Tryz.prog 87 #[.int .u64 6] w fun e w' => e = .returned (.int .i64 1) ∧ w = w' := by
  have c0 := hT.c1
  have h1 : bits BinOp.and IntKind.u64 6 (IntKind.u64.wrap (-6)) = 2 := by kernel_rfl
  have h2 : IntKind.u64.wrap 571740426102707730 = 571740426102707730 := by kernel_rfl
  clear hT
  go_enter Tryz.func87, Tryz.ntmps87
  go_wp2_with fail
  go_ret
  exact ⟨rfl, rfl⟩
theorem tz64_7 (w : World) (hT : Tz w) : Calls Tryz.prog 87 #[.int .u64 7] w fun e w' => e = .returned (.int .i64 0) ∧ w = w' := by
  have c0 := hT.c0
  have h1 : bits BinOp.and IntKind.u64 7 (IntKind.u64.wrap (-7)) = 1 := by kernel_rfl
  have h2 : IntKind.u64.wrap 285870213051353865 = 285870213051353865 := by kernel_rfl
  clear hT
  go_enter Tryz.func87, Tryz.ntmps87
  go_wp2_with fail
  go_ret
  exact ⟨rfl, rfl⟩
theorem tz64_8 (w : World) (hT : Tz w) : Calls Tryz.prog 87 #[.int .u64 8] w fun e w' => e = .returned (.int .i64 3) ∧ w = w' := by
  have c0 := hT.c3
  have h1 : bits BinOp.and IntKind.u64 8 (IntKind.u64.wrap (-8)) = 8 := by kernel_rfl
  have h2 : IntKind.u64.wrap 2286961704410830920 = 2286961704410830920 := by kernel_rfl
  clear hT
  go_enter Tryz.func87, Tryz.ntmps87
  go_wp2_with fail
  go_ret
  exact ⟨rfl, rfl⟩
theorem tz64_9 (w : World) (hT : Tz w) : Calls Tryz.prog 87 #[.int .u64 9] w fun e w' => e = .returned (.int .i64 0) ∧ w = w' := by
  have c0 := hT.c0
  have h1 : bits BinOp.and IntKind.u64 9 (IntKind.u64.wrap (-9)) = 1 := by kernel_rfl
  have h2 : IntKind.u64.wrap 285870213051353865 = 285870213051353865 := by kernel_rfl
  clear hT
  go_enter Tryz.func87, Tryz.ntmps87
  go_wp2_with fail
  go_ret
  exact ⟨rfl, rfl⟩
theorem tz64_10 (w : World) (hT : Tz w) : Calls Tryz.prog 87 #[.int .u64 10] w fun e w' => e = .returned (.int .i64 1) ∧ w = w' := by
  have c0 := hT.c1
  have h1 : bits BinOp.and IntKind.u64 10 (IntKind.u64.wrap (-10)) = 2 := by kernel_rfl
  have h2 : IntKind.u64.wrap 571740426102707730 = 571740426102707730 := by kernel_rfl
  clear hT
  go_enter Tryz.func87, Tryz.ntmps87
  go_wp2_with fail
  go_ret
  exact ⟨rfl, rfl⟩
theorem tz64_11 (w : World) (hT : Tz w) : Calls Tryz.prog 87 #[.int .u64 11] w fun e w' => e = .returned (.int .i64 0) ∧ w = w' := by
  have c0 := hT.c0
  have h1 : bits BinOp.and IntKind.u64 11 (IntKind.u64.wrap (-11)) = 1 := by kernel_rfl
  have h2 : IntKind.u64.wrap 285870213051353865 = 285870213051353865 := by kernel_rfl
  clear hT
  go_enter Tryz.func87, Tryz.ntmps87
  go_wp2_with fail
  go_ret
  exact ⟨rfl, rfl⟩
theorem tz64_12 (w : World) (hT : Tz w) : Calls Tryz.prog 87 #[.int .u64 12] w fun e w' => e = .returned (.int .i64 2) ∧ w = w' := by
  have c0 := hT.c2
  have h1 : bits BinOp.and IntKind.u64 12 (IntKind.u64.wrap (-12)) = 4 := by kernel_rfl
  have h2 : IntKind.u64.wrap 1143480852205415460 = 1143480852205415460 := by kernel_rfl
  clear hT
  go_enter Tryz.func87, Tryz.ntmps87
  go_wp2_with fail
  go_ret
  exact ⟨rfl, rfl⟩
theorem tz64_13 (w : World) (hT : Tz w) : Calls Tryz.prog 87 #[.int .u64 13] w fun e w' => e = .returned (.int .i64 0) ∧ w = w' := by
  have c0 := hT.c0
  have h1 : bits BinOp.and IntKind.u64 13 (IntKind.u64.wrap (-13)) = 1 := by kernel_rfl
  have h2 : IntKind.u64.wrap 285870213051353865 = 285870213051353865 := by kernel_rfl
  clear hT
  go_enter Tryz.func87, Tryz.ntmps87
  go_wp2_with fail
  go_ret
  exact ⟨rfl, rfl⟩
theorem tz64_14 (w : World) (hT : Tz w) : Calls Tryz.prog 87 #[.int .u64 14] w fun e w' => e = .returned (.int .i64 1) ∧ w = w' := by
  have c0 := hT.c1
  have h1 : bits BinOp.and IntKind.u64 14 (IntKind.u64.wrap (-14)) = 2 := by kernel_rfl
  have h2 : IntKind.u64.wrap 571740426102707730 = 571740426102707730 := by kernel_rfl
  clear hT
  go_enter Tryz.func87, Tryz.ntmps87
  go_wp2_with fail
  go_ret
  exact ⟨rfl, rfl⟩
theorem tz64_15 (w : World) (hT : Tz w) : Calls Tryz.prog 87 #[.int .u64 15] w fun e w' => e = .returned (.int .i64 0) ∧ w = w' := by
  have c0 := hT.c0
  have h1 : bits BinOp.and IntKind.u64 15 (IntKind.u64.wrap (-15)) = 1 := by kernel_rfl
  have h2 : IntKind.u64.wrap 285870213051353865 = 285870213051353865 := by kernel_rfl
  clear hT
  go_enter Tryz.func87, Tryz.ntmps87
  go_wp2_with fail
  go_ret
  exact ⟨rfl, rfl⟩
theorem tz64_any (m : Nat) (h0 : m ≠ 0) (h16 : m < 16) (w : World) (hT : Tz w) : Calls Tryz.prog 87 #[.int .u64 m] w fun e w' => e = .returned (.int .i64 (tzN m)) ∧ w = w' := by
  rcases (by omega : m = 1 ∨ m = 2 ∨ m = 3 ∨ m = 4 ∨ m = 5 ∨ m = 6 ∨ m = 7 ∨ m = 8 ∨ m = 9 ∨ m = 10 ∨ m = 11 ∨ m = 12 ∨ m = 13 ∨ m = 14 ∨ m = 15) with rfl | rfl | rfl | rfl | rfl | rfl | rfl | rfl | rfl | rfl | rfl | rfl | rfl | rfl | rfl
  · exact tz64_1 w hT
  · exact tz64_2 w hT
  · exact tz64_3 w hT
  · exact tz64_4 w hT
  · exact tz64_5 w hT
  · exact tz64_6 w hT
  · exact tz64_7 w hT
  · exact tz64_8 w hT
  · exact tz64_9 w hT
  · exact tz64_10 w hT
  · exact tz64_11 w hT
  · exact tz64_12 w hT
  · exact tz64_13 w hT
  · exact tz64_14 w hT
  · exact tz64_15 w hT
theorem tz_any (m : Nat) (h0 : m ≠ 0) (h16 : m < 16) (w : World) (hT : Tz w) : Calls Tryz.prog 53 #[.int .u64 m] w fun e w' => e = .returned (.int .i64 (tzN m)) ∧ w = w' := by
  have HC := Lib.hid (tz64_any m h0 h16 w hT)
  clear h0 hT
  go_enter Tryz.func53, Tryz.ntmps53
  go_wp2_with fail
  refine HC.out.mono ?_
  rintro e w' ⟨rfl, rfl⟩
  go_wp2_with fail
  go_ret
  exact ⟨rfl, rfl⟩
end Go.Proofs.YtjbdmlpadoiicaaGreatDoor
