/- Nets in plain words; checkLink, Leave, Last and Check of package relay. -/
import Derived.Test.YtiboolbndfhomaaRows
import Derived.WalkKit
import Derived.WalkLawsBesides
import Derived.Lib.Hide
import Derived.Outline
import Derived.Deep.QuietTactic
import Derived.BigQuiet
set_option linter.unusedVariables false
set_option linter.unusedSimpArgs false
namespace Go.Proofs.Ytiboolbndfhomaa
open Go.RowKit

abbrev Sp := Int × Int
structure Lk where
  fr : Int
  to : Int
  dl : Int
  op : List Sp
def Lk.nil : Lk := ⟨0, 0, 0, []⟩

theorem ret_int' {k : IntKind} {a b : Int} (h : a = b) : Ending.returned (.int k a) = .returned (.int k b) := by rw [h]
theorem ret_val' {a b : Value} (h : a = b) : Ending.returned a = .returned b := by rw [h]
theorem ret_bool' {a b : Bool} (h : a = b) : Ending.returned (.bool a) = .returned (.bool b) := by rw [h]

/-- A slice of spans that reads as a list. -/
def SpRow (w : World) (v : Value) (l : List Sp) : Prop :=
  (∃ a cap, v = .slice a 0 cap ∧ l = []) ∨
  ∃ b off cap, v = .slice (some ⟨b, off, none⟩) l.length cap ∧ b < w.heap.size ∧ ∀ i, i < l.length → w.cell? ⟨b, off + i * 2, none⟩ = some (.int .i64 (l.getD i (0, 0)).1) ∧ w.cell? ⟨b, off + i * 2 + 1, none⟩ = some (.int .i64 (l.getD i (0, 0)).2)
theorem SpRow.form {w : World} {v : Value} {l : List Sp} (h : SpRow w v l) : ∃ a cap, v = .slice a l.length cap ∧ ∀ k, k < l.length → ∃ b off, a = some ⟨b, off, none⟩ ∧ b < w.heap.size ∧ w.cell? ⟨b, off + k * 2, none⟩ = some (.int .i64 (l.getD k (0, 0)).1) ∧ w.cell? ⟨b, off + k * 2 + 1, none⟩ = some (.int .i64 (l.getD k (0, 0)).2) := by
  rcases h with ⟨a, cap, rfl, rfl⟩ | ⟨b, off, cap, rfl, hb, hc⟩
  · exact ⟨a, cap, rfl, fun k hk => by simp at hk⟩
  · exact ⟨_, cap, rfl, fun k hk => ⟨b, off, rfl, hb, hc k hk⟩⟩
theorem SpRow.keep {w w' : World} {v : Value} {l : List Sp} (h : SpRow w v l) (hb : Below w.heap.size w w') : SpRow w' v l := by
  rcases h with h | ⟨b, off, cap, rfl, h1, hc⟩
  · exact .inl h
  · exact .inr ⟨b, off, cap, rfl, Nat.lt_of_lt_of_le h1 hb.size, fun i hi => ⟨(hb.cell (p := ⟨b, _, none⟩) h1).trans (hc i hi).1, (hb.cell (p := ⟨b, _, none⟩) h1).trans (hc i hi).2⟩⟩
theorem SpRow.nil (w : World) : SpRow w (.slice none 0 0) [] := .inl ⟨_, _, rfl, rfl⟩

/-- A slice of links that reads as a list. -/
def LRow (w : World) (v : Value) (l : List Lk) : Prop :=
  (∃ a cap, v = .slice a 0 cap ∧ l = []) ∨
  ∃ b off cap, v = .slice (some ⟨b, off, none⟩) l.length cap ∧ b < w.heap.size ∧ ∀ i, i < l.length → w.cell? ⟨b, off + i * 4, none⟩ = some (.int .i64 (l.getD i .nil).fr) ∧ w.cell? ⟨b, off + i * 4 + 1, none⟩ = some (.int .i64 (l.getD i .nil).to) ∧
    w.cell? ⟨b, off + i * 4 + 2, none⟩ = some (.int .i64 (l.getD i .nil).dl) ∧ ∃ o, w.cell? ⟨b, off + i * 4 + 3, none⟩ = some o ∧ SpRow w o (l.getD i .nil).op
theorem LRow.form {w : World} {v : Value} {l : List Lk} (h : LRow w v l) : ∃ a cap, v = .slice a l.length cap ∧ ∀ i, i < l.length → ∃ b off, a = some ⟨b, off, none⟩ ∧ b < w.heap.size ∧ w.cell? ⟨b, off + i * 4, none⟩ = some (.int .i64 (l.getD i .nil).fr) ∧ w.cell? ⟨b, off + i * 4 + 1, none⟩ = some (.int .i64 (l.getD i .nil).to) ∧
    w.cell? ⟨b, off + i * 4 + 2, none⟩ = some (.int .i64 (l.getD i .nil).dl) ∧ ∃ o, w.cell? ⟨b, off + i * 4 + 3, none⟩ = some o ∧ SpRow w o (l.getD i .nil).op := by
  rcases h with ⟨a, cap, rfl, rfl⟩ | ⟨b, off, cap, rfl, hb, hc⟩
  · exact ⟨a, cap, rfl, fun k hk => by simp at hk⟩
  · exact ⟨_, cap, rfl, fun k hk => ⟨b, off, rfl, hb, hc k hk⟩⟩
theorem LRow.keep {w w' : World} {v : Value} {l : List Lk} (h : LRow w v l) (hb : Below w.heap.size w w') : LRow w' v l := by
  rcases h with h | ⟨b, off, cap, rfl, h1, hc⟩
  · exact .inl h
  · refine .inr ⟨b, off, cap, rfl, Nat.lt_of_lt_of_le h1 hb.size, fun i hi => ?_⟩
    obtain ⟨c0, c1, c2, o, c3, hs⟩ := hc i hi
    exact ⟨(hb.cell (p := ⟨b, _, none⟩) h1).trans c0, (hb.cell (p := ⟨b, _, none⟩) h1).trans c1, (hb.cell (p := ⟨b, _, none⟩) h1).trans c2, o, (hb.cell (p := ⟨b, _, none⟩) h1).trans c3, hs.keep hb⟩

/-! Links. -/
def okS : Int → List Sp → Bool
  | _, [] => true
  | e, s :: l => decide (e < s.1) && decide (s.1 ≤ s.2) && decide (s.2 ≤ 1048576) && okS s.2 l
/-- The error of a link, but for its stations. -/
def linkE (k : Lk) : Int := if k.dl < 1 ∨ 1440 < k.dl then 1 else if 12 < k.op.length then 2 else if okS (-1) k.op = true then 0 else 1
def leaveL : List Sp → Int → Int → Option Int
  | [], _, _ => none
  | s :: l, d, t => if max s.1 t ≤ s.2 - d then some (max s.1 t) else leaveL l d t
def leaveO (k : Lk) (t : Int) : Option Int := if linkE k = 0 then leaveL k.op k.dl t else none
def lastL : List Sp → Int → Int → Option Int → Option Int
  | [], _, _, o => o
  | s :: l, d, t, o => lastL l d t (if s.1 + d ≤ min s.2 t then some (min s.2 t - d) else o)
def lastO (k : Lk) (t : Int) : Option Int := if linkE k = 0 then lastL k.op k.dl t none else none
def optV : Option Int → Value
  | some d => .tuple #[.int .i64 d, .bool true]
  | none => .tuple #[.int .i64 0, .bool false]
def lkV (k : Lk) (o : Value) : Value := .agg #[.int .i64 k.fr, .int .i64 k.to, .int .i64 k.dl, o]
theorem drop_at {l : List Sp} {k : Nat} (hk : k < l.length) : l.drop k = l.getD k (0, 0) :: l.drop (k + 1) := by
  rw [List.getD_eq_getElem?_getD, List.getElem?_eq_getElem hk, List.drop_eq_getElem_cons hk]; rfl
theorem okS_bd : ∀ (l : List Sp) (e : Int), okS e l = true → ∀ s ∈ l, e < s.1 ∧ s.1 ≤ s.2 ∧ s.2 ≤ 1048576
  | [], _, _, s, hs => by simp at hs
  | x :: l, e, h, s, hs => by
    simp only [okS, Bool.and_eq_true, decide_eq_true_eq] at h
    obtain ⟨⟨⟨h1, h2⟩, h3⟩, h4⟩ := h
    rcases List.mem_cons.1 hs with rfl | hs
    · exact ⟨h1, h2, h3⟩
    · have := okS_bd l x.2 h4 s hs
      exact ⟨by omega, this.2.1, this.2.2⟩
theorem sp_mem {l : List Sp} {k : Nat} (hk : k < l.length) : l.getD k (0, 0) ∈ l := by
  rw [List.getD_eq_getElem?_getD, List.getElem?_eq_getElem hk]; exact List.getElem_mem _

set_option maxRecDepth 100000 in
set_option maxHeartbeats 1000000 in
theorem checkLink_any (k : Lk) (o : Value) (w : World) (hs : SpRow w o k.op) (hl : k.op.length ≤ 9223372036854775807) :
    Calls Try.prog 35 #[lkV k o] w fun e w' => e = .returned (.int .i64 (linkE k)) ∧ Below w.heap.size w w' := by
  obtain ⟨a, cap, rfl, hc⟩ := hs.form
  obtain ⟨fr, to, dl, op⟩ := k
  have HC := Lib.hid hc
  clear hc hs
  unfold lkV
  simp only at hl HC ⊢
  by_cases h1 : dl < 1
  · have HV : Hid (linkE ⟨fr, to, dl, op⟩ = 1) := Lib.hid (by unfold linkE; rw [if_pos (.inl h1)])
    go_enter Try.func35, Try.ntmps35
    go_wp2_with fail
    go_ret
    exact ⟨ret_int' HV.out.symm, (Below.refl _ w).alloc (Nat.le_refl _) _⟩
  by_cases h2 : 1440 < dl
  · have HV : Hid (linkE ⟨fr, to, dl, op⟩ = 1) := Lib.hid (by unfold linkE; rw [if_pos (.inr h2)])
    have g1 : decide (dl < 1) = false := decide_eq_false h1
    go_enter Try.func35, Try.ntmps35
    go_wp2_with fail
    go_ret
    exact ⟨ret_int' HV.out.symm, (Below.refl _ w).alloc (Nat.le_refl _) _⟩
  have g1 : decide (dl < 1) = false := decide_eq_false h1
  have g2 : decide (1440 < dl) = false := decide_eq_false h2
  by_cases h3 : 12 < op.length
  · have HV : Hid (linkE ⟨fr, to, dl, op⟩ = 2) := Lib.hid (by unfold linkE; rw [if_neg (by simp only; omega), if_pos h3])
    have g3 : (12 : Int) < op.length := by omega
    clear h1 h2
    go_enter Try.func35, Try.ntmps35
    go_wp2_with fail
    go_ret
    exact ⟨ret_int' HV.out.symm, (Below.refl _ w).alloc (Nat.le_refl _) _⟩
  have g3 : ¬ (12 : Int) < op.length := by omega
  have HV : Hid (linkE ⟨fr, to, dl, op⟩ = if okS (-1) op = true then 0 else 1) := Lib.hid (by unfold linkE; rw [if_neg (by simp only; omega), if_neg h3])
  have HB0 := Lib.hid ((Below.refl _ w).alloc (Nat.le_refl w.heap.size) (.cells #[.int .i64 fr, .int .i64 to, .int .i64 dl, .slice a op.length cap] 27))
  clear h1 h2 h3
  go_enter Try.func35, Try.ntmps35
  go_wp2_with fail
  go_loopw [3, 21] (fun e i wr => ∃ (k : Nat) (en : Int), k ≤ op.length ∧ i = .int .i64 k ∧ e = .int .i64 en ∧ Hid (okS (-1) op = okS en (op.drop k)) ∧ Hid (Below w.heap.size w wr)) (fun _ i _ => op.length - (intOf i).toNat)
  case atStart => exact ⟨0, -1, Nat.zero_le _, rfl, rfl, Lib.hid rfl, HB0⟩
  case round =>
    obtain ⟨k, en, hk, rfl, rfl, hT, hB⟩ := hrel
    by_cases hkl : k < op.length
    · obtain ⟨b, off, rfl, hb, c0, c1⟩ := HC.out k hkl
      have hki : (k : Int) < op.length := by omega
      have hk0 : (0 : Int) ≤ k := by omega
      have e0 := (hB.out.cell (p := ⟨b, _, none⟩) hb).trans c0
      have e1 := (hB.out.cell (p := ⟨b, _, none⟩) hb).trans c1
      have hD : Hid (okS en (op.drop k) = (decide (en < (op.getD k (0, 0)).1) && decide ((op.getD k (0, 0)).1 ≤ (op.getD k (0, 0)).2) && decide ((op.getD k (0, 0)).2 ≤ 1048576) && okS (op.getD k (0, 0)).2 (op.drop (k + 1)))) := Lib.hid (by rw [drop_at hkl]; rfl)
      obtain ⟨⟨lo, hi⟩, hx⟩ : ∃ x, op.getD k (0, 0) = x := ⟨_, rfl⟩
      rw [hx] at e0 e1 hD
      have HB1 : Hid (∀ o, Below w.heap.size w (wr.alloc o)) := Lib.hid fun o => hB.out.alloc hB.out.size o
      simp only at e0 e1
      clear c0 c1 hb hx
      by_cases q1 : lo ≤ en
      · have HN : Hid (linkE ⟨fr, to, dl, op⟩ = 1) := Lib.hid (by rw [HV.out, hT.out, hD.out, decide_eq_false (by simp only; omega)]; rfl)
        clear hD
        go_wp2_with fail
        go_ret
        exact ⟨ret_int' HN.out.symm, HB1.out _⟩
      have p1 : decide (lo ≤ en) = false := decide_eq_false q1
      by_cases q2 : hi < lo
      · have HN : Hid (linkE ⟨fr, to, dl, op⟩ = 1) := Lib.hid (by rw [HV.out, hT.out, hD.out, decide_eq_false (p := lo ≤ hi) (by omega)]; simp)
        clear hD q1
        go_wp2_with fail
        go_ret
        exact ⟨ret_int' HN.out.symm, HB1.out _⟩
      have p2 : decide (hi < lo) = false := decide_eq_false q2
      by_cases q3 : 1048576 < hi
      · have HN : Hid (linkE ⟨fr, to, dl, op⟩ = 1) := Lib.hid (by rw [HV.out, hT.out, hD.out, decide_eq_false (p := hi ≤ 1048576) (by omega)]; simp)
        clear hD q1 q2
        go_wp2_with fail
        go_ret
        exact ⟨ret_int' HN.out.symm, HB1.out _⟩
      have p3 : decide (1048576 < hi) = false := decide_eq_false q3
      have HN : Hid (okS (-1) op = okS hi (op.drop (k + 1))) := Lib.hid (by rw [hT.out, hD.out, decide_eq_true (p := en < lo) (by omega), decide_eq_true (p := lo ≤ hi) (by omega), decide_eq_true (p := hi ≤ 1048576) (by omega)]; simp)
      clear hD q1 q2 q3
      go_wp2_with fail
      go_roundw
      case rel => exact ⟨k + 1, hi, by omega, by go_num, rfl, HN, HB1.out _⟩
      case measure => simp [intOf]; omega
    · obtain rfl : k = op.length := by omega
      have HN : Hid (linkE ⟨fr, to, dl, op⟩ = 0) := Lib.hid (by rw [HV.out, hT.out, List.drop_length]; rfl)
      go_wp2_with fail
      go_ret
      exact ⟨ret_int' HN.out.symm, hB.out⟩
end Go.Proofs.Ytiboolbndfhomaa
