/- Package firetowerref05: Far, Against, Things. -/
import Derived.Test.YtebdboacmeafaaaCF0
import Derived.Test.YtebdboacmeafaaaCBA
import Derived.Test.YtebdboacmeafaaaCCA
import Derived.Test.YtebdboacmeafaaaCB8
set_option linter.unusedVariables false
set_option linter.unusedSimpArgs false
namespace Go.Proofs.Ytebdboacmeafaaa
open Go Go.RowKit

/-! Rows of the reference's things. -/
abbrev Th.tg (x : Th) : Value := .agg #[.int .i64 x.id, .int .i64 x.t, .int .i64 x.lo, .int .i64 x.hi, .bool x.no]
def Th.tge (x : Th) : List Value := [.int .i64 x.id, .int .i64 x.t, .int .i64 x.lo, .int .i64 x.hi, .bool x.no]
def TgAt (w : World) (b off i : Nat) (x : Th) : Prop := w.cell? ⟨b, off + i * 5, none⟩ = some (.int .i64 x.id) ∧ w.cell? ⟨b, off + i * 5 + 1, none⟩ = some (.int .i64 x.t) ∧ w.cell? ⟨b, off + i * 5 + 2, none⟩ = some (.int .i64 x.lo) ∧ w.cell? ⟨b, off + i * 5 + 3, none⟩ = some (.int .i64 x.hi) ∧ w.cell? ⟨b, off + i * 5 + 4, none⟩ = some (.bool x.no)
def TgRow (w : World) (v : Value) (l : List Th) : Prop :=
  (∃ a cap, v = .slice a 0 cap ∧ l = []) ∨
  ∃ b off cap, v = .slice (some ⟨b, off, none⟩) l.length cap ∧ l.length ≤ cap ∧ b < w.heap.size ∧ ∀ i, i < l.length → TgAt w b off i (l.getD i .nil)
theorem TgRow.form {w : World} {v : Value} {l : List Th} (h : TgRow w v l) : ∃ a cap, v = .slice a l.length cap ∧ ∀ i, i < l.length → ∃ b off, a = some ⟨b, off, none⟩ ∧ b < w.heap.size ∧ TgAt w b off i (l.getD i .nil) := by
  rcases h with ⟨a, cap, rfl, rfl⟩ | ⟨b, off, cap, rfl, hp, hb, hc⟩
  · exact ⟨a, cap, rfl, fun k hk => by simp at hk⟩
  · exact ⟨_, cap, rfl, fun k hk => ⟨b, off, rfl, hb, hc k hk⟩⟩
theorem TgAt.keep {w w' : World} {b off i : Nat} {x : Th} (h : TgAt w b off i x) {B : Nat} (hb : Below B w w') (hlt : b < B) : TgAt w' b off i x := by
  obtain ⟨h0, h1, h2, h3, h4⟩ := h
  exact ⟨(hb.cell (p := ⟨b, _, none⟩) hlt).trans h0, (hb.cell (p := ⟨b, _, none⟩) hlt).trans h1, (hb.cell (p := ⟨b, _, none⟩) hlt).trans h2, (hb.cell (p := ⟨b, _, none⟩) hlt).trans h3, (hb.cell (p := ⟨b, _, none⟩) hlt).trans h4⟩
theorem TgRow.keep {w w' : World} {v : Value} {l : List Th} (h : TgRow w v l) (hb : Below w.heap.size w w') : TgRow w' v l := by
  rcases h with h | ⟨b, off, cap, rfl, hp, h1, hc⟩
  · exact .inl h
  · exact .inr ⟨b, off, cap, rfl, hp, Nat.lt_of_lt_of_le h1 hb.size, fun i hi => (hc i hi).keep hb h1⟩
theorem flat_five (f : Th → List Value) (hf : ∀ x, (f x).length = 5) : ∀ (l : List Th) (i j : Nat), i < l.length → j < 5 → (l.flatMap f)[i * 5 + j]? = (f (l.getD i .nil))[j]?
  | [], i, j, h, _ => by simp at h
  | x :: l, 0, j, _, hj => by
    rw [List.flatMap_cons, List.getElem?_append_left (by rw [hf]; omega), Nat.zero_mul, Nat.zero_add]; rfl
  | x :: l, i + 1, j, h, hj => by
    rw [List.flatMap_cons, List.getElem?_append_right (by rw [hf]; omega), hf, show (i + 1) * 5 + j - 5 = i * 5 + j by omega, flat_five f hf l i j (by simpa using h) hj]; rfl
/-- Two things contradict each other, neither of which contradicts itself. -/
def agB (dr : Int) (a b : Th) : Bool := decide (b.hi + frI dr a.t b.t < a.lo) || decide (a.hi + frI dr a.t b.t < b.lo)
/-- What Things returns. -/
def ThgOut (z : Ci) (ks : List Ck) (w : World) (e : Ending) (w' : World) : Prop := ∃ v, e = .returned v ∧ TgRow w' v (thL z ks) ∧ Below w.heap.size w w'
theorem thL_len {z : Ci} {ks : List Ck} (h : ks.length ≤ 60) : (thL z ks).length ≤ 61 := by
  unfold thL
  rw [List.length_cons, List.length_map]
  exact Nat.succ_le_succ (Nat.le_trans (List.length_filter_le _ _) h)
end Go.Proofs.Ytebdboacmeafaaa
