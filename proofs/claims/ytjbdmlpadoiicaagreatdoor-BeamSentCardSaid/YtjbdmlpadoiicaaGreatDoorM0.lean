/- Plain lemmas on strings as lists of bytes, and the words of package beam in Lean. -/
import Derived.WalkKit
import Derived.Lib.Hide
import Derived.Lib.Bytealg
import Derived.Lib.Strings
set_option linter.unusedVariables false
set_option linter.unusedSimpArgs false
namespace Go.Proofs.YtjbdmlpadoiicaaGreatDoor
open Go.RowKit

/-- A string made of a list of bytes. -/
def B (l : List UInt8) : ByteArray := ⟨l.toArray⟩
@[simp, go_sem] theorem L_B (l : List UInt8) : (B l).data.toList = l := by simp [B]
@[simp, go_sem] theorem size_B (l : List UInt8) : (B l).size = l.length := by simp [B, ByteArray.size]
theorem B_L (s : ByteArray) : B s.data.toList = s := by cases s; simp [B]
theorem B_app (a b : List UInt8) : B a ++ B b = B (a ++ b) := by
  apply ByteArray.ext; simp [B]
theorem ext_L {a b : ByteArray} (h : a.data.toList = b.data.toList) : a = b := by rw [← B_L a, ← B_L b, h]
theorem size_toList (s : ByteArray) : s.data.toList.length = s.size := rfl

theorem toList_L (s : ByteArray) : s.toList = s.data.toList := Lib.toList_data s
@[simp, go_sem] theorem toList_B (l : List UInt8) : (B l).toList = l := by rw [toList_L, L_B]

def bat (s : ByteArray) (k : Nat) : UInt8 := s.data.toList.getD k 0
theorem bat_eq (s : ByteArray) (k : Nat) (h : k < s.size) : s[k] = bat s k := by
  unfold bat
  rw [List.getD_eq_getElem?_getD, List.getElem?_eq_getElem (by simpa using h)]; rfl
theorem bat_B (l : List UInt8) (k : Nat) : bat (B l) k = l.getD k 0 := by simp [bat]

theorem take_snoc (s : ByteArray) (k : Nat) (h : k < s.size) : s.data.toList.take (k + 1) = s.data.toList.take k ++ [s[k]] := by
  rw [List.take_succ_eq_append_getElem (by simpa using h)]; rfl
theorem take_all {s : ByteArray} {k : Nat} (h : ¬ k < s.size) : s.data.toList.take k = s.data.toList :=
  List.take_of_length_le (by have := size_toList s; omega)
theorem all_no (p : UInt8 → Bool) (s : ByteArray) (k : Nat) (h : k < s.size) (hp : p s[k] = false) : s.data.toList.all p = false := by
  rw [List.all_eq_false]
  exact ⟨s[k], by simp [ByteArray.getElem_eq_getElem_data], by simp [hp]⟩
theorem all_take (p : UInt8 → Bool) (s : ByteArray) (k : Nat) (h : k < s.size) (ha : (s.data.toList.take k).all p = true) (hp : p s[k] = true) : (s.data.toList.take (k + 1)).all p = true := by
  rw [take_snoc s k h, List.all_append, ha]; simp [hp]

theorem ret_bool {a b : Bool} (h : a = b) : Ending.returned (.bool a) = .returned (.bool b) := by rw [h]
theorem ret_int {k : IntKind} {a b : Int} (h : a = b) : Ending.returned (.int k a) = .returned (.int k b) := by rw [h]
theorem ret_str {a b : ByteArray} (h : a = b) : Ending.returned (.string a) = .returned (.string b) := by rw [h]
theorem ret_val {a b : Value} (h : a = b) : Ending.returned a = .returned b := by rw [h]

theorem bcell {W w1 : World} (hb : Below W.heap.size W w1) : (∀ b o, b < W.heap.size → w1.cell? ⟨b, o, none⟩ = W.cell? ⟨b, o, none⟩) ∧ (∀ b o, b < W.heap.size → w1.frozen? ⟨b, o, none⟩ = W.frozen? ⟨b, o, none⟩) :=
  ⟨fun b o h => hb.cell (p := ⟨b, o, none⟩) h, fun b o h => hb.frozen (p := ⟨b, o, none⟩) h⟩
theorem extract_tail (s : ByteArray) (k : Nat) : (s.extract k s.size).data.toList = s.data.toList.drop k := by
  simp only [ByteArray.data_extract, Array.toList_extract, List.extract]
  exact List.take_of_length_le (by simp)

/-- A sum over the numbers below k. -/
def sumTo (f : Nat → Int) : Nat → Int
  | 0 => 0
  | k + 1 => sumTo f k + f k
theorem sumTo_bd {f : Nat → Int} {m : Int} (h : ∀ i, 0 ≤ f i ∧ f i ≤ m) : ∀ k : Nat, 0 ≤ sumTo f k ∧ sumTo f k ≤ k * m
  | 0 => by simp [sumTo]
  | k + 1 => by
    have := sumTo_bd h k; have := h k
    simp only [sumTo]; refine ⟨by omega, ?_⟩
    have e : ((k + 1 : Nat) : Int) * m = k * m + m := by rw [Int.natCast_add, Int.add_mul]; simp
    rw [e]; omega
theorem sumTo_congr {f g : Nat → Int} : ∀ k : Nat, (∀ i, i < k → f i = g i) → sumTo f k = sumTo g k
  | 0, _ => rfl
  | k + 1, h => by simp only [sumTo]; rw [sumTo_congr k (fun i hi => h i (by omega)), h k (by omega)]

/-! ### Words -/
def letB (c : UInt8) : Bool := decide (97 ≤ (c.toNat : Int)) && decide ((c.toNat : Int) ≤ 122)
def wordB (s : List UInt8) : Bool := decide (1 ≤ s.length) && decide (s.length ≤ 10) && s.all letB
theorem letB_yes {c : UInt8} (h1 : 97 ≤ (c.toNat : Int)) (h2 : (c.toNat : Int) ≤ 122) : letB c = true := by simp [letB]; omega
theorem letB_no {c : UInt8} (h : (c.toNat : Int) < 97 ∨ 122 < (c.toNat : Int)) : letB c = false := by
  simp only [letB, Bool.and_eq_false_iff, decide_eq_false_iff_not]; omega

def signsL : List UInt8 := [43, 97, 98, 99, 100, 101, 102, 103, 104, 105, 106, 107, 108, 109, 110, 111, 112, 113, 114, 115, 116, 117, 118, 119, 120, 121, 122, 42, 35]
def valI (c : UInt8) : Int := Lib.indexByte signsL c
def signL (v : Int) : List UInt8 := [signsL.getD (v % 29).toNat 0]

@[simp, go_sem] theorem signL_length (v : Int) : (signL v).length = 1 := rfl

theorem u8_all {p : UInt8 → Prop} (h : ∀ n : Fin 256, p (UInt8.ofNat n)) (c : UInt8) : p c := by
  have := h ⟨c.toNat, c.toNat_lt⟩
  simpa using this
theorem valI_bd (c : UInt8) : -1 ≤ valI c ∧ valI c ≤ 28 := u8_all (p := fun c => -1 ≤ valI c ∧ valI c ≤ 28) (by decide +kernel) c
theorem valI_let (c : UInt8) (h : letB c = true) : valI c = (c.toNat : Int) - 96 :=
  u8_all (p := fun c => letB c = true → valI c = (c.toNat : Int) - 96) (by decide +kernel) c h
theorem valI_let_bd (c : UInt8) (h : letB c = true) : 1 ≤ valI c ∧ valI c ≤ 26 := by
  have := valI_let c h; simp [letB] at h; omega

/-! ### Flashes -/
def flashB (c : UInt8) : Bool := decide ((c.toNat : Int) = 46) || decide ((c.toNat : Int) = 45) || decide ((c.toNat : Int) = 47)
/-- The first error of flashes, of which there may be m. -/
def flashE (s : List UInt8) (m : Int) : Int := if m < (s.length : Int) then 2 else if s.all flashB then 0 else 7
theorem flashE_le' {l : List UInt8} {m : Int} (h : flashE l m = 0) : (l.length : Int) ≤ m := by
  unfold flashE at h; split at h
  · cases h
  · omega

/-! ### The checks of a word -/
def plainK (s : List UInt8) (k : Nat) : Int := sumTo (fun i => valI (s.getD i 0)) k
def weighK (s : List UInt8) (k : Nat) : Int := sumTo (fun i => ((i : Int) + 1) * valI (s.getD i 0)) k
def aheadL (s : List UInt8) : List UInt8 := signL s.length
def behindL (s : List UInt8) : List UInt8 := signL (plainK s s.length) ++ signL (weighK s s.length)
theorem plainK_succ (s : List UInt8) (k : Nat) : plainK s (k + 1) = plainK s k + valI (s.getD k 0) := rfl
theorem weighK_succ (s : List UInt8) (k : Nat) : weighK s (k + 1) = weighK s k + ((k : Int) + 1) * valI (s.getD k 0) := rfl
theorem sumTo_le {f : Nat → Int} {m : Int} : ∀ k : Nat, (∀ i, i < k → 0 ≤ f i ∧ f i ≤ m) → 0 ≤ sumTo f k ∧ sumTo f k ≤ k * m
  | 0, _ => by simp [sumTo]
  | k + 1, h => by
    have := sumTo_le k (fun i hi => h i (by omega)); have := h k (by omega)
    simp only [sumTo]; refine ⟨by omega, ?_⟩
    have e : ((k + 1 : Nat) : Int) * m = k * m + m := by rw [Int.natCast_add, Int.add_mul]; simp
    rw [e]; omega
theorem getD_all {p : UInt8 → Bool} {s : List UInt8} (h : s.all p = true) {i : Nat} (hi : i < s.length) : p (s.getD i 0) = true := by
  rw [List.getD_eq_getElem?_getD, List.getElem?_eq_getElem hi]
  exact List.all_eq_true.1 h _ (List.getElem_mem hi)
theorem word_parts {s : List UInt8} (h : wordB s = true) : 1 ≤ s.length ∧ s.length ≤ 10 ∧ s.all letB = true := by
  simp only [wordB, Bool.and_eq_true, decide_eq_true_eq] at h; exact ⟨h.1.1, h.1.2, h.2⟩
theorem plainK_bd {s : List UInt8} (h : s.all letB = true) (k : Nat) (hk : k ≤ s.length) (h10 : s.length ≤ 10) : 0 ≤ plainK s k ∧ plainK s k ≤ 260 := by
  have := sumTo_le (f := fun i => valI (s.getD i 0)) (m := 26) k (fun i hi => by have := valI_let_bd _ (getD_all h (i := i) (by omega)); omega)
  unfold plainK; omega
theorem mul_bd {a v : Int} (h0 : 0 ≤ a) (h1 : a ≤ 10) (v0 : 1 ≤ v) (v1 : v ≤ 26) : 0 ≤ a * v ∧ a * v ≤ 260 :=
  ⟨Int.mul_nonneg h0 (by omega), Int.le_trans (Int.mul_le_mul_of_nonneg_right h1 (by omega)) (by omega)⟩
theorem weighK_bd {s : List UInt8} (h : s.all letB = true) (k : Nat) (hk : k ≤ s.length) (h10 : s.length ≤ 10) : 0 ≤ weighK s k ∧ weighK s k ≤ 2600 := by
  have := sumTo_le (f := fun i => ((i : Int) + 1) * valI (s.getD i 0)) (m := 260) k (fun i hi => by
    have := valI_let_bd _ (getD_all h (i := i) (by omega)); exact mul_bd (by omega) (by omega) (by omega) (by omega))
  unfold weighK; omega
def checksV (s : List UInt8) : Value := if wordB s then .tuple #[.string (B (aheadL s)), .string (B (behindL s)), .int .i64 0] else .tuple #[.string ⟨#[]⟩, .string ⟨#[]⟩, .int .i64 7]

/-! ### How long flashes take -/
def costI (c : UInt8) : Int := if (c.toNat : Int) = 46 then 1 else if (c.toNat : Int) = 45 then 3 else if (c.toNat : Int) = 47 then 4 else 0
def costK (s : List UInt8) (k : Nat) : Int := sumTo (fun i => costI (s.getD i 0)) k
theorem costK_succ (s : List UInt8) (k : Nat) : costK s (k + 1) = costK s k + costI (s.getD k 0) := rfl
theorem costK_at (s : ByteArray) (k : Nat) (h : k < s.size) : costK s.data.toList (k + 1) = costK s.data.toList k + costI s[k] := by rw [bat_eq s k h]; rfl
theorem costI_bd (c : UInt8) : 0 ≤ costI c ∧ costI c ≤ 4 := by unfold costI; split <;> (try split) <;> (try split) <;> omega
theorem costK_bd (s : List UInt8) (k : Nat) : 0 ≤ costK s k ∧ costK s k ≤ k * 4 := sumTo_le k (fun _ _ => costI_bd _)
def timeV (s : List UInt8) : Value := if flashE s 4000 = 0 then .tuple #[.int .i64 (costK s s.length), .int .i64 0] else .tuple #[.int .i64 0, .int .i64 (flashE s 4000)]

/-! ### Telegrams -/
def validB (k n : Int) (t : List UInt8) : Bool :=
  decide (0 ≤ n) && decide (n ≤ 675) && (decide (k = 1) && (t.isEmpty || wordB t && decide (t.length ≤ 7)) || decide (k = 2) && t.isEmpty)
end Go.Proofs.YtjbdmlpadoiicaaGreatDoor
