/- Package circle: rows of things, and their sort. -/
import Derived.Test.YtpaihnjgpookjaaCB3
import Derived.Sort.Grow
import Derived.Sort.Walk0
import Derived.Shelf.SlSortCmp.WholeK
import Derived.Shelf.Lay
import Derived.Ground.SlsfProg
import Derived.Shelf.SlSortCmp.NoneTotal
set_option linter.unusedVariables false
set_option linter.unusedSimpArgs false
namespace Go.Proofs.Ytpaihnjgpookjaa
open Go Go.RowKit Go.Shelf
open Go.Proofs

theorem ownBelow {w w' : World} {c : Nat} {e : TypeId} {size : Nat} {v : Value} {n : Nat} {xs : List Value} (h : w.ownsRow c e size v n xs) (hb : Below w.heap.size w w') : w'.ownsRow c e size v n xs := by
  rcases h with ⟨h1, h2 | ⟨g, cap, cur, k1, k2, k3, k4⟩⟩
  · exact ⟨h1, .inl h2⟩
  · exact ⟨h1, .inr ⟨g, cap, cur, k1, k2, (hb.block _ (Array.getElem?_eq_some_iff.1 k3).1).trans k3, k4⟩⟩
structure Th where
  id : Int
  c : Int
  t : Int
  x : Int
  y : Int
  s : Int
  sl : Int
  lo : Int
  hi : Int
  no : Bool
def Th.nil : Th := ⟨0, 0, 0, 0, 0, 0, 0, 0, 0, false⟩
instance : Inhabited Th := ⟨Th.nil⟩
def Th.enc (x : Th) : List Value := [.int .i64 x.id, .int .i64 x.c, .int .i64 x.t, .int .i64 x.x, .int .i64 x.y, .int .i64 x.s, .int .i64 x.sl, .int .i64 x.lo, .int .i64 x.hi, .bool x.no]
abbrev Th.val (x : Th) : Value := .agg #[.int .i64 x.id, .int .i64 x.c, .int .i64 x.t, .int .i64 x.x, .int .i64 x.y, .int .i64 x.s, .int .i64 x.sl, .int .i64 x.lo, .int .i64 x.hi, .bool x.no]
/-- The cells of one element. -/
def ThAt (w : World) (b off i : Nat) (x : Th) : Prop := w.cell? ⟨b, off + i * 10, none⟩ = some (.int .i64 x.id) ∧ w.cell? ⟨b, off + i * 10 + 1, none⟩ = some (.int .i64 x.c) ∧ w.cell? ⟨b, off + i * 10 + 2, none⟩ = some (.int .i64 x.t) ∧ w.cell? ⟨b, off + i * 10 + 3, none⟩ = some (.int .i64 x.x) ∧ w.cell? ⟨b, off + i * 10 + 4, none⟩ = some (.int .i64 x.y) ∧ w.cell? ⟨b, off + i * 10 + 5, none⟩ = some (.int .i64 x.s) ∧ w.cell? ⟨b, off + i * 10 + 6, none⟩ = some (.int .i64 x.sl) ∧ w.cell? ⟨b, off + i * 10 + 7, none⟩ = some (.int .i64 x.lo) ∧ w.cell? ⟨b, off + i * 10 + 8, none⟩ = some (.int .i64 x.hi) ∧ w.cell? ⟨b, off + i * 10 + 9, none⟩ = some (.bool x.no)
def ThRow (w : World) (v : Value) (l : List Th) : Prop :=
  (∃ a cap, v = .slice a 0 cap ∧ l = []) ∨
  ∃ b off cap, v = .slice (some ⟨b, off, none⟩) l.length cap ∧ l.length ≤ cap ∧ b < w.heap.size ∧ ∀ i, i < l.length → ThAt w b off i (l.getD i .nil)
theorem ThRow.form {w : World} {v : Value} {l : List Th} (h : ThRow w v l) : ∃ a cap, v = .slice a l.length cap ∧ ∀ i, i < l.length → ∃ b off, a = some ⟨b, off, none⟩ ∧ b < w.heap.size ∧ ThAt w b off i (l.getD i .nil) := by
  rcases h with ⟨a, cap, rfl, rfl⟩ | ⟨b, off, cap, rfl, hp, hb, hc⟩
  · exact ⟨a, cap, rfl, fun k hk => by simp at hk⟩
  · exact ⟨_, cap, rfl, fun k hk => ⟨b, off, rfl, hb, hc k hk⟩⟩
theorem ThAt.keep {w w' : World} {b off i : Nat} {x : Th} (h : ThAt w b off i x) {B : Nat} (hb : Below B w w') (hlt : b < B) : ThAt w' b off i x := by
  obtain ⟨h0, h1, h2, h3, h4, h5, h6, h7, h8, h9⟩ := h
  exact ⟨(hb.cell (p := ⟨b, _, none⟩) hlt).trans h0, (hb.cell (p := ⟨b, _, none⟩) hlt).trans h1, (hb.cell (p := ⟨b, _, none⟩) hlt).trans h2, (hb.cell (p := ⟨b, _, none⟩) hlt).trans h3, (hb.cell (p := ⟨b, _, none⟩) hlt).trans h4, (hb.cell (p := ⟨b, _, none⟩) hlt).trans h5, (hb.cell (p := ⟨b, _, none⟩) hlt).trans h6, (hb.cell (p := ⟨b, _, none⟩) hlt).trans h7, (hb.cell (p := ⟨b, _, none⟩) hlt).trans h8, (hb.cell (p := ⟨b, _, none⟩) hlt).trans h9⟩
theorem ThRow.keep {w w' : World} {v : Value} {l : List Th} (h : ThRow w v l) (hb : Below w.heap.size w w') : ThRow w' v l := by
  rcases h with h | ⟨b, off, cap, rfl, hp, h1, hc⟩
  · exact .inl h
  · exact .inr ⟨b, off, cap, rfl, hp, Nat.lt_of_lt_of_le h1 hb.size, fun i hi => (hc i hi).keep hb h1⟩
theorem ThRow.take {w : World} {b off cap n : Nat} {l : List Th} (h : ThRow w (.slice (some ⟨b, off, none⟩) n cap) l) (k : Nat) (hk : k ≤ l.length) : ThRow w (.slice (some ⟨b, off, none⟩) k cap) (l.take k) := by
  rcases h with ⟨_, _, hv, rfl⟩ | ⟨b', off', c, hv, hp, h1, hc⟩
  · obtain rfl : k = 0 := by simpa using hk
    exact .inl ⟨_, _, rfl, rfl⟩
  · cases hv
    have hl : (l.take k).length = k := by rw [List.length_take]; omega
    refine .inr ⟨b, off, cap, by rw [hl], by omega, h1, fun i hi => ?_⟩
    rw [hl] at hi
    have := hc i (by omega)
    rwa [List.getD_eq_getElem?_getD, List.getElem?_take_of_lt hi, ← List.getD_eq_getElem?_getD]
def fldH (t : Th) : Nat → Value
  | 0 => .int .i64 t.id
  | 1 => .int .i64 t.c
  | 2 => .int .i64 t.t
  | 3 => .int .i64 t.x
  | 4 => .int .i64 t.y
  | 5 => .int .i64 t.s
  | 6 => .int .i64 t.sl
  | 7 => .int .i64 t.lo
  | 8 => .int .i64 t.hi
  | _ => .bool t.no
theorem encH_at (t : Th) (j : Nat) (h : j < 10) : (Th.enc t)[j]? = some (fldH t j) := by
  obtain rfl | rfl | rfl | rfl | rfl | rfl | rfl | rfl | rfl | rfl : j = 0 ∨ j = 1 ∨ j = 2 ∨ j = 3 ∨ j = 4 ∨ j = 5 ∨ j = 6 ∨ j = 7 ∨ j = 8 ∨ j = 9 := by omega
  all_goals rfl
theorem flatH_len (l : List Th) : (l.flatMap Th.enc).length = l.length * 10 := by
  induction l with
  | nil => rfl
  | cons t l ih => rw [List.flatMap_cons, List.length_append, ih, List.length_cons]; show 10 + _ = _; omega
theorem flatH_get : ∀ (l : List Th) (j : Nat), j < l.length * 10 → (l.flatMap Th.enc)[j]? = some (fldH (l.getD (j / 10) .nil) (j % 10))
  | [], j, h => by simp at h
  | t :: l, j, h => by
    rw [List.flatMap_cons]
    by_cases hj : j < 10
    · rw [List.getElem?_append_left (by show j < 10; omega), encH_at _ _ hj, show j / 10 = 0 by omega, show j % 10 = j by omega]; rfl
    · rw [List.getElem?_append_right (by show 10 ≤ j; omega)]
      show (l.flatMap Th.enc)[j - 10]? = _
      rw [flatH_get l (j - 10) (by simp at h; omega), show j / 10 = (j - 10) / 10 + 1 by omega, show j % 10 = (j - 10) % 10 by omega]
      rfl
theorem ThRow.of_raw {w : World} {b off cap : Nat} {l : List Th} (hp : l.length ≤ cap) (h1 : b < w.heap.size) (h : ∀ j, j < l.length * 10 → w.cell? ⟨b, off + j, none⟩ = some (fldH (l.getD (j / 10) .nil) (j % 10))) : ThRow w (.slice (some ⟨b, off, none⟩) l.length cap) l := by
  refine .inr ⟨b, off, cap, rfl, hp, h1, fun i hi => ?_⟩
  have c0 := h (i * 10) (by omega)
  have c1 := h (i * 10 + 1) (by omega)
  have c2 := h (i * 10 + 2) (by omega)
  have c3 := h (i * 10 + 3) (by omega)
  have c4 := h (i * 10 + 4) (by omega)
  have c5 := h (i * 10 + 5) (by omega)
  have c6 := h (i * 10 + 6) (by omega)
  have c7 := h (i * 10 + 7) (by omega)
  have c8 := h (i * 10 + 8) (by omega)
  have c9 := h (i * 10 + 9) (by omega)
  rw [show i * 10 / 10 = i by omega, show i * 10 % 10 = 0 by omega] at c0
  rw [show (i * 10 + 1) / 10 = i by omega, show (i * 10 + 1) % 10 = 1 by omega] at c1
  rw [show (i * 10 + 2) / 10 = i by omega, show (i * 10 + 2) % 10 = 2 by omega] at c2
  rw [show (i * 10 + 3) / 10 = i by omega, show (i * 10 + 3) % 10 = 3 by omega] at c3
  rw [show (i * 10 + 4) / 10 = i by omega, show (i * 10 + 4) % 10 = 4 by omega] at c4
  rw [show (i * 10 + 5) / 10 = i by omega, show (i * 10 + 5) % 10 = 5 by omega] at c5
  rw [show (i * 10 + 6) / 10 = i by omega, show (i * 10 + 6) % 10 = 6 by omega] at c6
  rw [show (i * 10 + 7) / 10 = i by omega, show (i * 10 + 7) % 10 = 7 by omega] at c7
  rw [show (i * 10 + 8) / 10 = i by omega, show (i * 10 + 8) % 10 = 8 by omega] at c8
  rw [show (i * 10 + 9) / 10 = i by omega, show (i * 10 + 9) % 10 = 9 by omega] at c9
  exact ⟨c0, by rw [Nat.add_assoc]; exact c1, by rw [Nat.add_assoc]; exact c2, by rw [Nat.add_assoc]; exact c3, by rw [Nat.add_assoc]; exact c4, by rw [Nat.add_assoc]; exact c5, by rw [Nat.add_assoc]; exact c6, by rw [Nat.add_assoc]; exact c7, by rw [Nat.add_assoc]; exact c8, by rw [Nat.add_assoc]; exact c9⟩
theorem info_th : (Try.prog.info? 125).map (fun i => (i.zero, i.size, i.bytes)) = some (some (.agg #[.int .i64 0, .int .i64 0, .int .i64 0, .int .i64 0, .int .i64 0, .int .i64 0, .int .i64 0, .int .i64 0, .int .i64 0, .bool false]), 10, 80) := by kernel_rfl
theorem isNaN_any (x : Int) (w : World) : Calls Try.prog 102 #[.int .i64 x] w fun e w' => e = .returned (.bool false) ∧ w = w' := by
  go_enter Try.func102, Try.ntmps102
  go_wp2_with fail
  go_ret
  exact ⟨rfl, rfl⟩
def cmpI (x y : Int) : Int := if x < y then -1 else if y < x then 1 else 0
theorem cmpI_any (x y : Int) (w : World) : Calls Try.prog 97 #[.int .i64 x, .int .i64 y] w fun e w' => e = .returned (.int .i64 (cmpI x y)) ∧ w = w' := by
  by_cases h1 : x < y
  · have HC : Hid (cmpI x y = -1) := Lib.hid (by unfold cmpI; rw [if_pos h1])
    go_enter Try.func97, Try.ntmps97
    go_wp2_with (go_at_call 102; refine (isNaN_any _ _).mono ?_; rintro e w' ⟨rfl, rfl⟩)
    go_ret
    exact ⟨ret_int' HC.out.symm, rfl⟩
  · by_cases h2 : y < x
    · have HC : Hid (cmpI x y = 1) := Lib.hid (by unfold cmpI; rw [if_neg h1, if_pos h2])
      go_enter Try.func97, Try.ntmps97
      go_wp2_with (go_at_call 102; refine (isNaN_any _ _).mono ?_; rintro e w' ⟨rfl, rfl⟩)
      go_ret
      exact ⟨ret_int' HC.out.symm, rfl⟩
    · have HC : Hid (cmpI x y = 0) := Lib.hid (by unfold cmpI; rw [if_neg h1, if_neg h2])
      go_enter Try.func97, Try.ntmps97
      go_wp2_with (go_at_call 102; refine (isNaN_any _ _).mono ?_; rintro e w' ⟨rfl, rfl⟩)
      go_ret
      exact ⟨ret_int' HC.out.symm, rfl⟩
def cmpH (s t : Th) : Int := cmpI s.id t.id
theorem grow_twoH (w : World) (a b : Obj) : ((w.alloc a).alloc b) = Go.Sort.grow (w.drewN 0) #[a, b] := by
  simp only [Go.Sort.alloc_eq_grow, Go.Sort.grow_grow]
  rfl
theorem cmpH_any (s t : Th) (w : World) :
    Calls Try.prog 96 #[.agg (Th.enc s).toArray, .agg (Th.enc t).toArray] w fun e w' => e = .returned (.int .i64 (cmpH s t)) ∧ ∃ m os, w' = Go.Sort.grow (w.drewN m) os := by
  obtain ⟨a, s1, s2, s3, s4, s5, s6, s7, s8, s9⟩ := s
  obtain ⟨b, r1, r2, r3, r4, r5, r6, r7, r8, r9⟩ := t
  show Calls Try.prog 96 #[.agg #[.int .i64 a, .int .i64 s1, .int .i64 s2, .int .i64 s3, .int .i64 s4, .int .i64 s5, .int .i64 s6, .int .i64 s7, .int .i64 s8, .bool s9], .agg #[.int .i64 b, .int .i64 r1, .int .i64 r2, .int .i64 r3, .int .i64 r4, .int .i64 r5, .int .i64 r6, .int .i64 r7, .int .i64 r8, .bool r9]] w _
  have C1 := Lib.hid (fun w => cmpI_any a b w)
  show Calls _ _ _ _ fun e w' => e = .returned (.int .i64 (cmpI a b)) ∧ _
  generalize cmpI a b = r at C1 ⊢
  go_enter Try.func96, Try.ntmps96
  go_wp2_with (go_at_call 97; refine (C1.out _).mono ?_; rintro e w' ⟨rfl, rfl⟩)
  go_ret
  exact ⟨rfl, 0, _, grow_twoH w _ _⟩
theorem ltOf_cmpH (s t : Th) : ltOf cmpH s t = true ↔ s.id < t.id := by
  unfold ltOf cmpH cmpI
  rw [decide_eq_true_eq]
  split
  · simp_all
  · split <;> omega
theorem swoH : Go.Sort.SWO (ltOf cmpH) where
  irrefl x := by
    cases h : ltOf cmpH x x with
    | false => rfl
    | true => have := (ltOf_cmpH x x).1 h; omega
  trans x y z h1 h2 := (ltOf_cmpH x z).2 (by have := (ltOf_cmpH x y).1 h1; have := (ltOf_cmpH y z).1 h2; omega)
  ntrans x y z h1 h2 := by
    cases h : ltOf cmpH x z with
    | false => rfl
    | true =>
      have h3 := (ltOf_cmpH x z).1 h
      have n1 : ¬ x.id < y.id := fun k => by rw [(ltOf_cmpH x y).2 k] at h1; cases h1
      have n2 : ¬ y.id < z.id := fun k => by rw [(ltOf_cmpH y z).2 k] at h2; cases h2
      omega
theorem cmpLaysH (blk off size : Nat) (w : World) : CmpLays Try.prog 96 #[] Th.enc 10 cmpH blk off size w :=
  fun _ _ _ _ x y => cmpH_any x y _
shelf_lay_g SlLaysF0.n6 Slsf 6 at Try 95 as sortTh
end Go.Proofs.Ytpaihnjgpookjaa

/-! The sort of towers. -/
namespace Go.Proofs.Ytpaihnjgpookjaa
open Go Go.RowKit Go.Shelf
open Go.Proofs
theorem own_cells {w : World} {base g n cap : Nat} {e : TypeId} {size : Nat} {xs : List Value} (h : w.ownsRow base e size (.slice (some ⟨g, 0, none⟩) n cap) n xs) : ∃ C, w.heap[g]? = some (.cells C e (0, 0)) := by
  rcases h.2 with ⟨h0, _⟩ | ⟨g', cap', cur, hv, _, hb, _⟩
  · cases h0
  · cases hv; exact ⟨_, hb⟩
theorem sort_cells (w : World) (g n : Nat) (d : Array Th) (os : Array Obj) (h : ∃ C, w.heap[g]? = some (.cells C 125 (0, 0))) : ∃ C, (sortWorldK Th.enc 10 w g 0 n d os).heap[g]? = some (.cells C 125 (0, 0)) := by
  obtain ⟨C, hC⟩ := h
  show ∃ C, ((w.heap.modify g _) ++ os)[g]? = some (.cells C 125 (0, 0))
  rw [Array.getElem?_append_left (by simpa using (Array.getElem?_eq_some_iff.1 hC).1), Array.getElem?_modify, if_pos rfl, hC]
  exact ⟨_, rfl⟩
theorem grown_sortH (w : World) (g n : Nat) (d : Array Th) (os : Array Obj) : w.grownBy (sortWorldK Th.enc 10 w g 0 n d os) (some g) := by
  refine ⟨rfl, rfl, rfl, ?_, fun k hk hne => ?_⟩
  · show w.heap.size ≤ ((w.heap.modify g _) ++ os).size
    simp
  · show ((w.heap.modify g _) ++ os)[k]? = w.heap[k]?
    rw [Array.getElem?_append_left (by simpa using hk), Array.getElem?_modify, if_neg (fun e => hne (by rw [e]))]
theorem encH_flat (l : List Th) (t : Nat) (h : t < l.length * 10) : (Go.Sort.flatK Th.enc 10 l.toArray)[t]! = fldH (l.getD (t / 10) .nil) (t % 10) := by
  rw [Go.Sort.get_flatK Th.enc 10 _ _ (by simpa using h)]
  have e1 : l.toArray[t / 10]! = l.getD (t / 10) .nil := by
    rw [List.getD_eq_getElem?_getD]; simp [show t / 10 < l.length by omega]
  rw [e1, List.getElem!_eq_getElem?_getD, encH_at _ _ (by omega)]; rfl
theorem holdsH {w : World} {base g cap : Nat} {l : List Th} (h : w.ownsRow base 125 10 (.slice (some ⟨g, 0, none⟩) l.length cap) l.length (l.flatMap Th.enc)) : Go.Sort.HoldsK Th.enc 10 w g 0 l.toArray ∧ g < w.heap.size ∧ base ≤ g ∧ l.length ≤ cap := by
  rcases h.2 with ⟨h0, _⟩ | ⟨g', cap', cur, hv, hg, hb, hn, hm, hs, ht⟩
  · cases h0
  · cases hv
    refine ⟨fun j hj => ?_, (Array.getElem?_eq_some_iff.1 hb).1, hg, hn⟩
    rw [Go.Sort.size_flatK] at hj
    have hj' : j < l.length * 10 := by simpa using hj
    refine ⟨?_, freeH hb _⟩
    rw [Nat.zero_add, cellH hb]
    have hc : cur[j]? = (l.flatMap Th.enc)[j]? := by
      rw [← ht, List.getElem?_take_of_lt hj', Array.getElem?_toList]
    rw [hc, flatH_get _ _ hj']
    show _ = some ((Go.Sort.flatK Th.enc 10 l.toArray)[j]!)
    rw [encH_flat l j hj']
theorem hsort_some {base g cap : Nat} {l : List Th} (hk : (l.map Th.id).Nodup) (hl : l.length ≤ 1000000) (w : World) (h : w.ownsRow base 125 10 (.slice (some ⟨g, 0, none⟩) l.length cap) l.length (l.flatMap Th.enc)) :
    Calls Try.prog 95 #[.slice (some ⟨g, 0, none⟩) l.length cap, .func (.func 96) #[] #[]] w fun e w' => e = .returned (.tuple #[]) ∧
      ∃ L, ThRow w' (.slice (some ⟨g, 0, none⟩) l.length cap) L ∧ L.Pairwise (fun s t => s.id < t.id) ∧ L.Perm l ∧ w.grownBy w' (some g) ∧ ∃ C, w'.heap[g]? = some (.cells C 125 (0, 0)) := by
  obtain ⟨hH, hg, hb, hc⟩ := holdsH h
  have eg : ∀ args w, (callFunc 96 args).run Try.prog w = .ok (.enter 96 args) w := enters_of Try.func96 (by kernel_rfl) rfl
  have hcon := AnyQ.slices_SortFunc sortTh 10 (fun w => by kernel_rfl) (fun w => by kernel_rfl) Th.enc (fun _ => rfl) (fun x v hv => by simp [Th.enc] at hv; rcases hv with rfl | rfl | rfl | rfl | rfl | rfl | rfl | rfl | rfl | rfl <;> rfl) cmpH swoH 96 #[] g 0 cap l.toArray w eg (cmpLaysH g 0 l.toArray.size w) hH hg (by simp; omega)
  change Calls Try.prog 95 _ _ _ at hcon
  rw [show l.toArray.size = l.length by simp] at hcon
  refine hcon.mono ?_
  rintro e w' ⟨rfl, d', n, os, hp, hs, rfl⟩
  have hsz : d'.size = l.length := by have := hp.1; simpa using this
  have hperm : d'.toList.Perm l := by
    have := hp.2.2
    rw [show d'.extract 0 l.length = d' by rw [← hsz]; simp] at this
    simpa using this
  have hH' := holdsK_sortWorldK_c Th.enc 10 w g 0 l.toArray d' n os hH hg (by simpa using hsz)
  have hlen : d'.toList.length = l.length := by simpa using hsz
  refine ⟨rfl, d'.toList, ?_, ?_, hperm, grown_sortH w g n d' os, sort_cells w g n d' os (own_cells h)⟩
  · rw [← hlen]
    refine ThRow.of_raw (by omega) (by have := (grown_sortH w g n d' os).size; omega) fun j hj => ?_
    have e1 := (hH' j (by rw [Go.Sort.size_flatK]; simp at hj; omega)).1
    have f1 := encH_flat d'.toList j hj
    rw [Array.toArray_toList] at f1
    exact e1.trans (congrArg some f1)
  · rw [List.pairwise_iff_getElem]
    intro i j hi hj hij
    have h1 := hs i j (Nat.zero_le _) hij (by simp at hj; omega)
    have hn : (d'.toList.map Th.id).Nodup := (hperm.map Th.id).nodup_iff.2 hk
    have hne : d'.toList[i].id ≠ d'.toList[j].id := fun e => by
      have := (List.pairwise_iff_getElem.1 hn) i j (by simpa using hi) (by simpa using hj) hij
      simp only [List.getElem_map] at this
      exact this e
    have e1 : d'[i]! = d'.toList[i] := by simp at hi; simp [hi]
    have e2 : d'[j]! = d'.toList[j] := by simp at hj; simp [hj]
    rw [e1, e2] at h1
    rcases Int.lt_trichotomy d'.toList[i].id d'.toList[j].id with k | k | k
    · exact k
    · exact absurd k hne
    · rw [(ltOf_cmpH _ _).2 k] at h1; cases h1
theorem hsort_none (p : Option Addr) (cap : Nat) (fv : Value) (w : World) :
    Calls Try.prog 95 #[.slice p 0 cap, fv] w fun e w' => e = .returned (.tuple #[]) ∧ w' = w :=
  AnyF.slices_SortFunc_none sortTh p cap fv w
end Go.Proofs.Ytpaihnjgpookjaa
