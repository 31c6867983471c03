/- Faults as pairs of a kind and an index; what they make of flashes. -/
import Derived.Test.YtjbdmlpadoiicaaGreatDoorM0
set_option linter.unusedVariables false
set_option linter.unusedSimpArgs false
namespace Go.Proofs.YtjbdmlpadoiicaaGreatDoor
open Go.RowKit

abbrev Flt := Int × Int
def widthZ (k : Int) : Int := if k = 1 ∨ k = 2 then 1 else if k = 3 then 2 else 0
/-- The flash p is in the fault f. -/
def covers (p : Int) (f : Flt) : Bool := decide (f.2 = p) || decide (f.1 = 3) && decide (f.2 + 1 = p)
/-- The error of the fault f behind the faults pre, of n flashes. -/
def errF (n : Int) (pre : List Flt) (f : Flt) : Int :=
  if widthZ f.1 = 0 ∨ f.2 < 0 ∨ n - widthZ f.1 < f.2 then 1
  else if pre.any (covers f.2) ∨ (f.1 = 3 ∧ pre.any (covers (f.2 + 1))) then 6 else 0
def canFrom (n : Int) : List Flt → List Flt → Int
  | _, [] => 0
  | pre, f :: l => if errF n pre f = 0 then canFrom n (pre ++ [f]) l else errF n pre f
/-- The first error of faults of n flashes. -/
def canE (n : Int) (l : List Flt) : Int := canFrom n [] l
def at? (l : List Flt) (p : Int) : Flt := (l.find? (covers p)).getD (0, 0)

theorem canFrom_err (n : Int) : ∀ (l pre : List Flt) (k : Nat) (hk : k < l.length), (∀ j (hj : j < k), errF n (pre ++ l.take j) (l[j]'(by omega)) = 0) → errF n (pre ++ l.take k) l[k] ≠ 0 → canFrom n pre l = errF n (pre ++ l.take k) l[k]
  | f :: l, pre, 0, _, _, h => by
    simp only [List.take_zero, List.append_nil, List.getElem_cons_zero] at h ⊢
    simp [canFrom, h]
  | f :: l, pre, k + 1, hk, h0, h => by
    have h1 := h0 0 (by omega)
    simp only [List.take_zero, List.append_nil, List.getElem_cons_zero] at h1
    have := canFrom_err n l (pre ++ [f]) k (by simpa using hk) (fun j hj => by have := h0 (j + 1) (by omega); simpa using this) (by simpa using h)
    simp [canFrom, h1, this]
theorem canFrom_ok (n : Int) : ∀ (l pre : List Flt), (∀ j (hj : j < l.length), errF n (pre ++ l.take j) l[j] = 0) → canFrom n pre l = 0
  | [], _, _ => rfl
  | f :: l, pre, h => by
    have h1 := h 0 (by simp)
    simp only [List.take_zero, List.append_nil, List.getElem_cons_zero] at h1
    simp [canFrom, h1]
    exact canFrom_ok n l (pre ++ [f]) (fun j hj => by have := h (j + 1) (by simpa using hj); simpa using this)
theorem canE_err (n : Int) (l : List Flt) (k : Nat) (hk : k < l.length) (h0 : ∀ j (hj : j < k), errF n (l.take j) (l[j]'(by omega)) = 0) (h : errF n (l.take k) l[k] ≠ 0) : canE n l = errF n (l.take k) l[k] := by
  have := canFrom_err n l [] k hk (by simpa using h0) (by simpa using h); simpa [canE] using this
theorem canE_ok (n : Int) (l : List Flt) (h : ∀ j (hj : j < l.length), errF n (l.take j) l[j] = 0) : canE n l = 0 := canFrom_ok n l [] (by simpa using h)

theorem at_snoc (pre : List Flt) (f : Flt) (p : Int) : at? (pre ++ [f]) p = if pre.any (covers p) then at? pre p else if covers p f then f else (0, 0) := by
  unfold at?
  rw [List.find?_append]
  cases h : pre.find? (covers p) with
  | none =>
    have : pre.any (covers p) = false := by
      rw [List.any_eq_false]; intro x hx hc; exact absurd hc (by simpa using List.find?_eq_none.1 h x hx)
    simp [this, List.find?_cons]; split <;> simp_all
  | some y =>
    have : pre.any (covers p) = true := List.any_eq_true.2 ⟨y, List.mem_of_find?_eq_some h, by simpa using List.find?_some h⟩
    simp [this]
theorem at_none (pre : List Flt) (p : Int) (h : pre.any (covers p) = false) : at? pre p = (0, 0) := by
  unfold at?
  rw [List.find?_eq_none.2 (fun x hx => by simpa using List.any_eq_false.1 h x hx)]; rfl
theorem any_at (pre : List Flt) (p : Int) (h : ∀ f ∈ pre, widthZ f.1 ≠ 0) : pre.any (covers p) = true ↔ (at? pre p).1 ≠ 0 := by
  constructor
  · intro ha
    obtain ⟨x, hx, hc⟩ := List.any_eq_true.1 ha
    unfold at?
    cases hf : pre.find? (covers p) with
    | none => exact absurd hc (by simpa using List.find?_eq_none.1 hf x hx)
    | some y =>
      have := h y (List.mem_of_find?_eq_some hf)
      simp only [Option.getD_some]; intro e; apply this; simp [widthZ, e]
  · intro ha
    cases hb : pre.any (covers p) with
    | true => rfl
    | false => rw [at_none pre p hb] at ha; simp at ha

theorem widthZ_cases (k : Int) : widthZ k = 0 ∨ (widthZ k = 1 ∧ (k = 1 ∨ k = 2)) ∨ (widthZ k = 2 ∧ k = 3) := by
  unfold widthZ; split
  · rename_i h; exact .inr (.inl ⟨rfl, h⟩)
  · split
    · rename_i h; exact .inr (.inr ⟨rfl, h⟩)
    · exact .inl rfl
theorem covers_iff {k a p : Int} (h : widthZ k ≠ 0) : covers p (k, a) = true ↔ a ≤ p ∧ p < a + widthZ k := by
  simp only [covers, Bool.or_eq_true, Bool.and_eq_true, decide_eq_true_eq]
  rcases widthZ_cases k with h0 | ⟨h1, h2⟩ | ⟨h1, h2⟩
  · exact absurd h0 h
  · rw [h1]; omega
  · rw [h1]; omega
theorem errF_one {n : Int} {pre : List Flt} {k a : Int} (h : widthZ k = 0 ∨ a < 0 ∨ n - widthZ k < a) : errF n pre (k, a) = 1 := by simp [errF, h]
theorem errF_six {n : Int} {pre : List Flt} {k a : Int} (h : ¬ (widthZ k = 0 ∨ a < 0 ∨ n - widthZ k < a)) (m : Int) (h0 : 0 ≤ m) (h1 : m < widthZ k) (hc : pre.any (covers (a + m)) = true) : errF n pre (k, a) = 6 := by
  simp only [errF, h, if_false]
  rw [if_pos]
  rcases widthZ_cases k with e | ⟨e1, e2⟩ | ⟨e1, e2⟩
  · exact absurd (.inl e) h
  · obtain rfl : m = 0 := by omega
    left; simpa using hc
  · rcases (by omega : m = 0 ∨ m = 1) with rfl | rfl
    · left; simpa using hc
    · right; exact ⟨e2, hc⟩
theorem errF_ok {n : Int} {pre : List Flt} {k a : Int} (h : ¬ (widthZ k = 0 ∨ a < 0 ∨ n - widthZ k < a)) (hc : ∀ m : Int, 0 ≤ m → m < widthZ k → pre.any (covers (a + m)) = false) : errF n pre (k, a) = 0 := by
  simp only [errF, h, if_false]
  rw [if_neg]
  rcases widthZ_cases k with e | ⟨e1, e2⟩ | ⟨e1, e2⟩
  · exact absurd (.inl e) h
  · have := hc 0 (by omega) (by omega)
    simp only [Int.add_zero] at this
    simp [this]; intro h3; omega
  · have := hc 0 (by omega) (by omega); have h2 := hc 1 (by omega) (by omega)
    simp only [Int.add_zero] at this
    simp [this, h2]
theorem errF_zero_width {n : Int} {pre : List Flt} {f : Flt} (h : errF n pre f = 0) : widthZ f.1 ≠ 0 ∧ 0 ≤ f.2 ∧ f.2 + widthZ f.1 ≤ n := by
  unfold errF at h; split at h
  · cases h
  · rename_i h'; omega
theorem prefix_widths {n : Int} {l : List Flt} {k : Nat} (hk : k ≤ l.length) (h : ∀ j (hj : j < k), errF n (l.take j) (l[j]'(by omega)) = 0) : ∀ f ∈ l.take k, widthZ f.1 ≠ 0 := by
  intro f hf
  obtain ⟨j, hj, rfl⟩ := List.getElem_of_mem hf
  have hj' : j < k := by simp at hj; omega
  rw [List.getElem_take]
  exact (errF_zero_width (h j hj')).1

theorem canFrom_zero (n : Int) : ∀ (l pre : List Flt), canFrom n pre l = 0 → ∀ f ∈ l, widthZ f.1 ≠ 0 ∧ 0 ≤ f.2 ∧ f.2 + widthZ f.1 ≤ n
  | [], _, _, f, hf => by cases hf
  | g :: l, pre, h, f, hf => by
    simp only [canFrom] at h
    split at h
    · rename_i h0
      rcases List.mem_cons.1 hf with rfl | hf
      · exact errF_zero_width h0
      · exact canFrom_zero n l _ h f hf
    · contradiction
theorem at_spec {n : Int} {l : List Flt} (h : canE n l = 0) (p : Int) (hk : (at? l p).1 ≠ 0) : at? l p ∈ l ∧ covers p (at? l p) = true ∧ widthZ (at? l p).1 ≠ 0 ∧ 0 ≤ (at? l p).2 ∧ (at? l p).2 + widthZ (at? l p).1 ≤ n := by
  unfold at? at *
  cases hf : l.find? (covers p) with
  | none => rw [hf] at hk; simp at hk
  | some f =>
    simp only [Option.getD_some]
    have hm := List.mem_of_find?_eq_some hf
    have := canFrom_zero n l [] h f hm
    exact ⟨hm, List.find?_some hf, this⟩

/-- What becomes of the flash i. -/
def pieceL (s : List UInt8) (l : List Flt) (i : Nat) : List UInt8 :=
  if (at? l i).1 = 1 then [] else if (at? l i).1 = 2 then [s.getD i 0, s.getD i 0] else if (at? l i).1 = 3 then [s.getD (2 * (at? l i).2 + 1 - i).toNat 0] else [s.getD i 0]
def faultedK (s : List UInt8) (l : List Flt) (k : Nat) : List UInt8 := (List.range k).flatMap (pieceL s l)
def faultedL (s : List UInt8) (l : List Flt) : List UInt8 := faultedK s l s.length
theorem faultedK_succ (s : List UInt8) (l : List Flt) (k : Nat) : faultedK s l (k + 1) = faultedK s l k ++ pieceL s l k := by simp [faultedK, List.range_succ]
theorem faultedK_length (s : List UInt8) (l : List Flt) : ∀ k : Nat, (faultedK s l k).length ≤ 2 * k
  | 0 => by simp [faultedK]
  | k + 1 => by
    have := faultedK_length s l k
    rw [faultedK_succ, List.length_append]
    have : (pieceL s l k).length ≤ 2 := by unfold pieceL; split <;> (try split) <;> (try split) <;> simp
    omega
def faultedE (s : List UInt8) (l : List Flt) : Int := if flashE s 100 = 0 then canE s.length l else flashE s 100
def faultedV (s : List UInt8) (l : List Flt) : Value := if faultedE s l = 0 then .tuple #[.string (B (faultedL s l)), .int .i64 0] else .tuple #[.string ⟨#[]⟩, .int .i64 (faultedE s l)]
end Go.Proofs.YtjbdmlpadoiicaaGreatDoor
