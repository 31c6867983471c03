/- Merged: CB5, CB6, CB7, CB9. -/
import Derived.Test.YtebdboacmeafaaaGreatCB3
import Derived.Sort.Grow
import Derived.Sort.Walk0
import Derived.Shelf.SlSortCmp.WholeK
import Derived.Shelf.Lay
import Derived.Ground.SlsfProg
import Derived.Shelf.SlSortCmp.NoneTotal
/- Package circle: rows of things, and their sort. -/
set_option linter.unusedVariables false
set_option linter.unusedSimpArgs false
namespace Go.Proofs.YtebdboacmeafaaaGreat
open Go Go.RowKit Go.Shelf
open Go.Proofs

theorem ownBelow {w w' : World} {c : Nat} {e : TypeId} {size : Nat} {v : Value} {n : Nat} {xs : List Value} (h : w.ownsRow c e size v n xs) (hb : Below w.heap.size w w') : w'.ownsRow c e size v n xs := by
  rcases h with ⟨h1, h2 | ⟨g, cap, cur, k1, k2, k3, k4⟩⟩
  · exact ⟨h1, .inl h2⟩
  · exact ⟨h1, .inr ⟨g, cap, cur, k1, k2, (hb.block _ (Array.getElem?_eq_some_iff.1 k3).1).trans k3, k4⟩⟩
structure Th where
  id : Int
  c : Int
  t : Int
  x : Int
  y : Int
  s : Int
  sl : Int
  lo : Int
  hi : Int
  no : Bool
def Th.nil : Th := ⟨0, 0, 0, 0, 0, 0, 0, 0, 0, false⟩
instance : Inhabited Th := ⟨Th.nil⟩
def Th.enc (x : Th) : List Value := [.int .i64 x.id, .int .i64 x.c, .int .i64 x.t, .int .i64 x.x, .int .i64 x.y, .int .i64 x.s, .int .i64 x.sl, .int .i64 x.lo, .int .i64 x.hi, .bool x.no]
abbrev Th.val (x : Th) : Value := .agg #[.int .i64 x.id, .int .i64 x.c, .int .i64 x.t, .int .i64 x.x, .int .i64 x.y, .int .i64 x.s, .int .i64 x.sl, .int .i64 x.lo, .int .i64 x.hi, .bool x.no]
/-- The cells of one element. -/
def ThAt (w : World) (b off i : Nat) (x : Th) : Prop := w.cell? ⟨b, off + i * 10, none⟩ = some (.int .i64 x.id) ∧ w.cell? ⟨b, off + i * 10 + 1, none⟩ = some (.int .i64 x.c) ∧ w.cell? ⟨b, off + i * 10 + 2, none⟩ = some (.int .i64 x.t) ∧ w.cell? ⟨b, off + i * 10 + 3, none⟩ = some (.int .i64 x.x) ∧ w.cell? ⟨b, off + i * 10 + 4, none⟩ = some (.int .i64 x.y) ∧ w.cell? ⟨b, off + i * 10 + 5, none⟩ = some (.int .i64 x.s) ∧ w.cell? ⟨b, off + i * 10 + 6, none⟩ = some (.int .i64 x.sl) ∧ w.cell? ⟨b, off + i * 10 + 7, none⟩ = some (.int .i64 x.lo) ∧ w.cell? ⟨b, off + i * 10 + 8, none⟩ = some (.int .i64 x.hi) ∧ w.cell? ⟨b, off + i * 10 + 9, none⟩ = some (.bool x.no)
def ThRow (w : World) (v : Value) (l : List Th) : Prop :=
  (∃ a cap, v = .slice a 0 cap ∧ l = []) ∨
  ∃ b off cap, v = .slice (some ⟨b, off, none⟩) l.length cap ∧ l.length ≤ cap ∧ b < w.heap.size ∧ ∀ i, i < l.length → ThAt w b off i (l.getD i .nil)
theorem ThRow.form {w : World} {v : Value} {l : List Th} (h : ThRow w v l) : ∃ a cap, v = .slice a l.length cap ∧ ∀ i, i < l.length → ∃ b off, a = some ⟨b, off, none⟩ ∧ b < w.heap.size ∧ ThAt w b off i (l.getD i .nil) := by
  rcases h with ⟨a, cap, rfl, rfl⟩ | ⟨b, off, cap, rfl, hp, hb, hc⟩
  · exact ⟨a, cap, rfl, fun k hk => by simp at hk⟩
  · exact ⟨_, cap, rfl, fun k hk => ⟨b, off, rfl, hb, hc k hk⟩⟩
theorem ThAt.keep {w w' : World} {b off i : Nat} {x : Th} (h : ThAt w b off i x) {B : Nat} (hb : Below B w w') (hlt : b < B) : ThAt w' b off i x := by
  obtain ⟨h0, h1, h2, h3, h4, h5, h6, h7, h8, h9⟩ := h
  exact ⟨(hb.cell (p := ⟨b, _, none⟩) hlt).trans h0, (hb.cell (p := ⟨b, _, none⟩) hlt).trans h1, (hb.cell (p := ⟨b, _, none⟩) hlt).trans h2, (hb.cell (p := ⟨b, _, none⟩) hlt).trans h3, (hb.cell (p := ⟨b, _, none⟩) hlt).trans h4, (hb.cell (p := ⟨b, _, none⟩) hlt).trans h5, (hb.cell (p := ⟨b, _, none⟩) hlt).trans h6, (hb.cell (p := ⟨b, _, none⟩) hlt).trans h7, (hb.cell (p := ⟨b, _, none⟩) hlt).trans h8, (hb.cell (p := ⟨b, _, none⟩) hlt).trans h9⟩
theorem ThRow.keep {w w' : World} {v : Value} {l : List Th} (h : ThRow w v l) (hb : Below w.heap.size w w') : ThRow w' v l := by
  rcases h with h | ⟨b, off, cap, rfl, hp, h1, hc⟩
  · exact .inl h
  · exact .inr ⟨b, off, cap, rfl, hp, Nat.lt_of_lt_of_le h1 hb.size, fun i hi => (hc i hi).keep hb h1⟩
theorem ThRow.take {w : World} {b off cap n : Nat} {l : List Th} (h : ThRow w (.slice (some ⟨b, off, none⟩) n cap) l) (k : Nat) (hk : k ≤ l.length) : ThRow w (.slice (some ⟨b, off, none⟩) k cap) (l.take k) := by
  rcases h with ⟨_, _, hv, rfl⟩ | ⟨b', off', c, hv, hp, h1, hc⟩
  · obtain rfl : k = 0 := by simpa using hk
    exact .inl ⟨_, _, rfl, rfl⟩
  · cases hv
    have hl : (l.take k).length = k := by rw [List.length_take]; omega
    refine .inr ⟨b, off, cap, by rw [hl], by omega, h1, fun i hi => ?_⟩
    rw [hl] at hi
    have := hc i (by omega)
    rwa [List.getD_eq_getElem?_getD, List.getElem?_take_of_lt hi, ← List.getD_eq_getElem?_getD]
def fldH (t : Th) : Nat → Value
  | 0 => .int .i64 t.id
  | 1 => .int .i64 t.c
  | 2 => .int .i64 t.t
  | 3 => .int .i64 t.x
  | 4 => .int .i64 t.y
  | 5 => .int .i64 t.s
  | 6 => .int .i64 t.sl
  | 7 => .int .i64 t.lo
  | 8 => .int .i64 t.hi
  | _ => .bool t.no
theorem encH_at (t : Th) (j : Nat) (h : j < 10) : (Th.enc t)[j]? = some (fldH t j) := by
  obtain rfl | rfl | rfl | rfl | rfl | rfl | rfl | rfl | rfl | rfl : j = 0 ∨ j = 1 ∨ j = 2 ∨ j = 3 ∨ j = 4 ∨ j = 5 ∨ j = 6 ∨ j = 7 ∨ j = 8 ∨ j = 9 := by omega
  all_goals rfl
theorem flatH_len (l : List Th) : (l.flatMap Th.enc).length = l.length * 10 := by
  induction l with
  | nil => rfl
  | cons t l ih => rw [List.flatMap_cons, List.length_append, ih, List.length_cons]; show 10 + _ = _; omega
theorem flatH_get : ∀ (l : List Th) (j : Nat), j < l.length * 10 → (l.flatMap Th.enc)[j]? = some (fldH (l.getD (j / 10) .nil) (j % 10))
  | [], j, h => by simp at h
  | t :: l, j, h => by
    rw [List.flatMap_cons]
    by_cases hj : j < 10
    · rw [List.getElem?_append_left (by show j < 10; omega), encH_at _ _ hj, show j / 10 = 0 by omega, show j % 10 = j by omega]; rfl
    · rw [List.getElem?_append_right (by show 10 ≤ j; omega)]
      show (l.flatMap Th.enc)[j - 10]? = _
      rw [flatH_get l (j - 10) (by simp at h; omega), show j / 10 = (j - 10) / 10 + 1 by omega, show j % 10 = (j - 10) % 10 by omega]
      rfl
theorem ThRow.of_raw {w : World} {b off cap : Nat} {l : List Th} (hp : l.length ≤ cap) (h1 : b < w.heap.size) (h : ∀ j, j < l.length * 10 → w.cell? ⟨b, off + j, none⟩ = some (fldH (l.getD (j / 10) .nil) (j % 10))) : ThRow w (.slice (some ⟨b, off, none⟩) l.length cap) l := by
  refine .inr ⟨b, off, cap, rfl, hp, h1, fun i hi => ?_⟩
  have c0 := h (i * 10) (by omega)
  have c1 := h (i * 10 + 1) (by omega)
  have c2 := h (i * 10 + 2) (by omega)
  have c3 := h (i * 10 + 3) (by omega)
  have c4 := h (i * 10 + 4) (by omega)
  have c5 := h (i * 10 + 5) (by omega)
  have c6 := h (i * 10 + 6) (by omega)
  have c7 := h (i * 10 + 7) (by omega)
  have c8 := h (i * 10 + 8) (by omega)
  have c9 := h (i * 10 + 9) (by omega)
  rw [show i * 10 / 10 = i by omega, show i * 10 % 10 = 0 by omega] at c0
  rw [show (i * 10 + 1) / 10 = i by omega, show (i * 10 + 1) % 10 = 1 by omega] at c1
  rw [show (i * 10 + 2) / 10 = i by omega, show (i * 10 + 2) % 10 = 2 by omega] at c2
  rw [show (i * 10 + 3) / 10 = i by omega, show (i * 10 + 3) % 10 = 3 by omega] at c3
  rw [show (i * 10 + 4) / 10 = i by omega, show (i * 10 + 4) % 10 = 4 by omega] at c4
  rw [show (i * 10 + 5) / 10 = i by omega, show (i * 10 + 5) % 10 = 5 by omega] at c5
  rw [show (i * 10 + 6) / 10 = i by omega, show (i * 10 + 6) % 10 = 6 by omega] at c6
  rw [show (i * 10 + 7) / 10 = i by omega, show (i * 10 + 7) % 10 = 7 by omega] at c7
  rw [show (i * 10 + 8) / 10 = i by omega, show (i * 10 + 8) % 10 = 8 by omega] at c8
  rw [show (i * 10 + 9) / 10 = i by omega, show (i * 10 + 9) % 10 = 9 by omega] at c9
  exact ⟨c0, by rw [Nat.add_assoc]; exact c1, by rw [Nat.add_assoc]; exact c2, by rw [Nat.add_assoc]; exact c3, by rw [Nat.add_assoc]; exact c4, by rw [Nat.add_assoc]; exact c5, by rw [Nat.add_assoc]; exact c6, by rw [Nat.add_assoc]; exact c7, by rw [Nat.add_assoc]; exact c8, by rw [Nat.add_assoc]; exact c9⟩
theorem info_th : (Tryz.prog.info? 128).map (fun i => (i.zero, i.size, i.bytes)) = some (some (.agg #[.int .i64 0, .int .i64 0, .int .i64 0, .int .i64 0, .int .i64 0, .int .i64 0, .int .i64 0, .int .i64 0, .int .i64 0, .bool false]), 10, 80) := by kernel_rfl
theorem isNaN_any (x : Int) (w : World) : Calls Tryz.prog 107 #[.int .i64 x] w fun e w' => e = .returned (.bool false) ∧ w = w' := by
  go_enter Tryz.func107, Tryz.ntmps107
  go_wp2_with fail
  go_ret
  exact ⟨rfl, rfl⟩
def cmpI (x y : Int) : Int := if x < y then -1 else if y < x then 1 else 0
theorem cmpI_any (x y : Int) (w : World) : Calls Tryz.prog 51 #[.int .i64 x, .int .i64 y] w fun e w' => e = .returned (.int .i64 (cmpI x y)) ∧ w = w' := by
  by_cases h1 : x < y
  · have HC : Hid (cmpI x y = -1) := Lib.hid (by unfold cmpI; rw [if_pos h1])
    go_enter Tryz.func51, Tryz.ntmps51
    go_wp2_with (go_at_call 107; refine (isNaN_any _ _).mono ?_; rintro e w' ⟨rfl, rfl⟩)
    go_ret
    exact ⟨ret_int' HC.out.symm, rfl⟩
  · by_cases h2 : y < x
    · have HC : Hid (cmpI x y = 1) := Lib.hid (by unfold cmpI; rw [if_neg h1, if_pos h2])
      go_enter Tryz.func51, Tryz.ntmps51
      go_wp2_with (go_at_call 107; refine (isNaN_any _ _).mono ?_; rintro e w' ⟨rfl, rfl⟩)
      go_ret
      exact ⟨ret_int' HC.out.symm, rfl⟩
    · have HC : Hid (cmpI x y = 0) := Lib.hid (by unfold cmpI; rw [if_neg h1, if_neg h2])
      go_enter Tryz.func51, Tryz.ntmps51
      go_wp2_with (go_at_call 107; refine (isNaN_any _ _).mono ?_; rintro e w' ⟨rfl, rfl⟩)
      go_ret
      exact ⟨ret_int' HC.out.symm, rfl⟩
def cmpH (s t : Th) : Int := cmpI s.id t.id
theorem grow_twoH (w : World) (a b : Obj) : ((w.alloc a).alloc b) = Go.Sort.grow (w.drewN 0) #[a, b] := by
  simp only [Go.Sort.alloc_eq_grow, Go.Sort.grow_grow]
  rfl
theorem cmpH_any (s t : Th) (w : World) :
    Calls Tryz.prog 113 #[.agg (Th.enc s).toArray, .agg (Th.enc t).toArray] w fun e w' => e = .returned (.int .i64 (cmpH s t)) ∧ ∃ m os, w' = Go.Sort.grow (w.drewN m) os := by
  obtain ⟨a, s1, s2, s3, s4, s5, s6, s7, s8, s9⟩ := s
  obtain ⟨b, r1, r2, r3, r4, r5, r6, r7, r8, r9⟩ := t
  show Calls Tryz.prog 113 #[.agg #[.int .i64 a, .int .i64 s1, .int .i64 s2, .int .i64 s3, .int .i64 s4, .int .i64 s5, .int .i64 s6, .int .i64 s7, .int .i64 s8, .bool s9], .agg #[.int .i64 b, .int .i64 r1, .int .i64 r2, .int .i64 r3, .int .i64 r4, .int .i64 r5, .int .i64 r6, .int .i64 r7, .int .i64 r8, .bool r9]] w _
  have C1 := Lib.hid (fun w => cmpI_any a b w)
  show Calls _ _ _ _ fun e w' => e = .returned (.int .i64 (cmpI a b)) ∧ _
  generalize cmpI a b = r at C1 ⊢
  go_enter Tryz.func113, Tryz.ntmps113
  go_wp2_with (go_at_call 51; refine (C1.out _).mono ?_; rintro e w' ⟨rfl, rfl⟩)
  go_ret
  exact ⟨rfl, 0, _, grow_twoH w _ _⟩
theorem ltOf_cmpH (s t : Th) : ltOf cmpH s t = true ↔ s.id < t.id := by
  unfold ltOf cmpH cmpI
  rw [decide_eq_true_eq]
  split
  · simp_all
  · split <;> omega
theorem swoH : Go.Sort.SWO (ltOf cmpH) where
  irrefl x := by
    cases h : ltOf cmpH x x with
    | false => rfl
    | true => have := (ltOf_cmpH x x).1 h; omega
  trans x y z h1 h2 := (ltOf_cmpH x z).2 (by have := (ltOf_cmpH x y).1 h1; have := (ltOf_cmpH y z).1 h2; omega)
  ntrans x y z h1 h2 := by
    cases h : ltOf cmpH x z with
    | false => rfl
    | true =>
      have h3 := (ltOf_cmpH x z).1 h
      have n1 : ¬ x.id < y.id := fun k => by rw [(ltOf_cmpH x y).2 k] at h1; cases h1
      have n2 : ¬ y.id < z.id := fun k => by rw [(ltOf_cmpH y z).2 k] at h2; cases h2
      omega
theorem cmpLaysH (blk off size : Nat) (w : World) : CmpLays Tryz.prog 113 #[] Th.enc 10 cmpH blk off size w :=
  fun _ _ _ _ x y => cmpH_any x y _
shelf_lay_g SlLaysF0.n6 Slsf 6 at Tryz 112 as sortTh
end Go.Proofs.YtebdboacmeafaaaGreat

/-! The sort of towers. -/
namespace Go.Proofs.YtebdboacmeafaaaGreat
open Go Go.RowKit Go.Shelf
open Go.Proofs
theorem own_cells {w : World} {base g n cap : Nat} {e : TypeId} {size : Nat} {xs : List Value} (h : w.ownsRow base e size (.slice (some ⟨g, 0, none⟩) n cap) n xs) : ∃ C, w.heap[g]? = some (.cells C e (0, 0)) := by
  rcases h.2 with ⟨h0, _⟩ | ⟨g', cap', cur, hv, _, hb, _⟩
  · cases h0
  · cases hv; exact ⟨_, hb⟩
theorem sort_cells (w : World) (g n : Nat) (d : Array Th) (os : Array Obj) (h : ∃ C, w.heap[g]? = some (.cells C 128 (0, 0))) : ∃ C, (sortWorldK Th.enc 10 w g 0 n d os).heap[g]? = some (.cells C 128 (0, 0)) := by
  obtain ⟨C, hC⟩ := h
  show ∃ C, ((w.heap.modify g _) ++ os)[g]? = some (.cells C 128 (0, 0))
  rw [Array.getElem?_append_left (by simpa using (Array.getElem?_eq_some_iff.1 hC).1), Array.getElem?_modify, if_pos rfl, hC]
  exact ⟨_, rfl⟩
theorem grown_sortH (w : World) (g n : Nat) (d : Array Th) (os : Array Obj) : w.grownBy (sortWorldK Th.enc 10 w g 0 n d os) (some g) := by
  refine ⟨rfl, rfl, rfl, ?_, fun k hk hne => ?_⟩
  · show w.heap.size ≤ ((w.heap.modify g _) ++ os).size
    simp
  · show ((w.heap.modify g _) ++ os)[k]? = w.heap[k]?
    rw [Array.getElem?_append_left (by simpa using hk), Array.getElem?_modify, if_neg (fun e => hne (by rw [e]))]
theorem encH_flat (l : List Th) (t : Nat) (h : t < l.length * 10) : (Go.Sort.flatK Th.enc 10 l.toArray)[t]! = fldH (l.getD (t / 10) .nil) (t % 10) := by
  rw [Go.Sort.get_flatK Th.enc 10 _ _ (by simpa using h)]
  have e1 : l.toArray[t / 10]! = l.getD (t / 10) .nil := by
    rw [List.getD_eq_getElem?_getD]; simp [show t / 10 < l.length by omega]
  rw [e1, List.getElem!_eq_getElem?_getD, encH_at _ _ (by omega)]; rfl
theorem holdsH {w : World} {base g cap : Nat} {l : List Th} (h : w.ownsRow base 128 10 (.slice (some ⟨g, 0, none⟩) l.length cap) l.length (l.flatMap Th.enc)) : Go.Sort.HoldsK Th.enc 10 w g 0 l.toArray ∧ g < w.heap.size ∧ base ≤ g ∧ l.length ≤ cap := by
  rcases h.2 with ⟨h0, _⟩ | ⟨g', cap', cur, hv, hg, hb, hn, hm, hs, ht⟩
  · cases h0
  · cases hv
    refine ⟨fun j hj => ?_, (Array.getElem?_eq_some_iff.1 hb).1, hg, hn⟩
    rw [Go.Sort.size_flatK] at hj
    have hj' : j < l.length * 10 := by simpa using hj
    refine ⟨?_, freeH hb _⟩
    rw [Nat.zero_add, cellH hb]
    have hc : cur[j]? = (l.flatMap Th.enc)[j]? := by
      rw [← ht, List.getElem?_take_of_lt hj', Array.getElem?_toList]
    rw [hc, flatH_get _ _ hj']
    show _ = some ((Go.Sort.flatK Th.enc 10 l.toArray)[j]!)
    rw [encH_flat l j hj']
theorem hsort_some {base g cap : Nat} {l : List Th} (hk : (l.map Th.id).Nodup) (hl : l.length ≤ 1000000) (w : World) (h : w.ownsRow base 128 10 (.slice (some ⟨g, 0, none⟩) l.length cap) l.length (l.flatMap Th.enc)) :
    Calls Tryz.prog 112 #[.slice (some ⟨g, 0, none⟩) l.length cap, .func (.func 113) #[] #[]] w fun e w' => e = .returned (.tuple #[]) ∧
      ∃ L, ThRow w' (.slice (some ⟨g, 0, none⟩) l.length cap) L ∧ L.Pairwise (fun s t => s.id < t.id) ∧ L.Perm l ∧ w.grownBy w' (some g) ∧ ∃ C, w'.heap[g]? = some (.cells C 128 (0, 0)) := by
  obtain ⟨hH, hg, hb, hc⟩ := holdsH h
  have eg : ∀ args w, (callFunc 113 args).run Tryz.prog w = .ok (.enter 113 args) w := enters_of Tryz.func113 (by kernel_rfl) rfl
  have hcon := AnyQ.slices_SortFunc sortTh 10 (fun w => by kernel_rfl) (fun w => by kernel_rfl) Th.enc (fun _ => rfl) (fun x v hv => by simp [Th.enc] at hv; rcases hv with rfl | rfl | rfl | rfl | rfl | rfl | rfl | rfl | rfl | rfl <;> rfl) cmpH swoH 113 #[] g 0 cap l.toArray w eg (cmpLaysH g 0 l.toArray.size w) hH hg (by simp; omega)
  change Calls Tryz.prog 112 _ _ _ at hcon
  rw [show l.toArray.size = l.length by simp] at hcon
  refine hcon.mono ?_
  rintro e w' ⟨rfl, d', n, os, hp, hs, rfl⟩
  have hsz : d'.size = l.length := by have := hp.1; simpa using this
  have hperm : d'.toList.Perm l := by
    have := hp.2.2
    rw [show d'.extract 0 l.length = d' by rw [← hsz]; simp] at this
    simpa using this
  have hH' := holdsK_sortWorldK_c Th.enc 10 w g 0 l.toArray d' n os hH hg (by simpa using hsz)
  have hlen : d'.toList.length = l.length := by simpa using hsz
  refine ⟨rfl, d'.toList, ?_, ?_, hperm, grown_sortH w g n d' os, sort_cells w g n d' os (own_cells h)⟩
  · rw [← hlen]
    refine ThRow.of_raw (by omega) (by have := (grown_sortH w g n d' os).size; omega) fun j hj => ?_
    have e1 := (hH' j (by rw [Go.Sort.size_flatK]; simp at hj; omega)).1
    have f1 := encH_flat d'.toList j hj
    rw [Array.toArray_toList] at f1
    exact e1.trans (congrArg some f1)
  · rw [List.pairwise_iff_getElem]
    intro i j hi hj hij
    have h1 := hs i j (Nat.zero_le _) hij (by simp at hj; omega)
    have hn : (d'.toList.map Th.id).Nodup := (hperm.map Th.id).nodup_iff.2 hk
    have hne : d'.toList[i].id ≠ d'.toList[j].id := fun e => by
      have := (List.pairwise_iff_getElem.1 hn) i j (by simpa using hi) (by simpa using hj) hij
      simp only [List.getElem_map] at this
      exact this e
    have e1 : d'[i]! = d'.toList[i] := by simp at hi; simp [hi]
    have e2 : d'[j]! = d'.toList[j] := by simp at hj; simp [hj]
    rw [e1, e2] at h1
    rcases Int.lt_trichotomy d'.toList[i].id d'.toList[j].id with k | k | k
    · exact k
    · exact absurd k hne
    · rw [(ltOf_cmpH _ _).2 k] at h1; cases h1
theorem hsort_none (p : Option Addr) (cap : Nat) (fv : Value) (w : World) :
    Calls Tryz.prog 112 #[.slice p 0 cap, fv] w fun e w' => e = .returned (.tuple #[]) ∧ w' = w :=
  AnyF.slices_SortFunc_none sortTh p cap fv w
end Go.Proofs.YtebdboacmeafaaaGreat
/- Package circle: dialOf. -/
set_option linter.unusedVariables false
set_option linter.unusedSimpArgs false
namespace Go.Proofs.YtebdboacmeafaaaGreat
open Go Go.RowKit

/-- A check as a thing. -/
def Th.of (x y : Int) (k : Ck) : Th := ⟨k.id, k.c, k.t, k.x, k.y, k.s, k.sl, if alB x y k = true then alL x y k else 0, if alB x y k = true then alH x y k else 0, !alB x y k⟩
def Th.beg (z : Ci) : Th := ⟨0, 0, z.f, 0, 0, 0, 0, z.lo, z.hi, false⟩
/-- The things of a circle. -/
def thL (z : Ci) (ks : List Ck) : List Th := Th.beg z :: (ks.filter fun k => k.c == z.id).map (Th.of z.x z.y)
/-- A list in the order of its numbers. -/
def OrdH (L l : List Th) : Prop := L.Perm l ∧ L.Pairwise fun s t => s.id < t.id
theorem thL_take {z : Ci} {ks : List Ck} {k : Nat} (hk : k < ks.length) : thL z (ks.take (k + 1)) = if (ks.getD k .nil).c == z.id then thL z (ks.take k) ++ [Th.of z.x z.y (ks.getD k .nil)] else thL z (ks.take k) := by
  unfold thL
  rw [List.take_succ_eq_append_getElem hk, List.filter_append, List.map_append, List.getD_eq_getElem?_getD, List.getElem?_eq_getElem hk]
  simp only [Option.getD_some]
  cases h : (ks[k].c == z.id) <;> simp [h]
theorem ck_ids {cs : List Ci} {ks : List Ck} (h : CcOk cs ks) : ks.Pairwise fun a b => a.id ≠ b.id := by
  rw [List.pairwise_iff_getElem]
  intro i j hi hj hij
  have h1 := (h.ck j hj).2
  have e1 : ks.getD j .nil = ks[j] := by rw [List.getD_eq_getElem?_getD, List.getElem?_eq_getElem hj]; rfl
  rw [e1] at h1
  unfold ckF at h1
  rw [List.find?_eq_none] at h1
  have h2 := h1 ks[i] (List.mem_take_iff_getElem.2 ⟨i, by omega, rfl⟩)
  simpa using h2
theorem thL_ids {cs : List Ci} {ks : List Ck} (h : CcOk cs ks) (z : Ci) : ((thL z ks).map Th.id).Nodup := by
  unfold thL
  rw [List.map_cons, List.map_map, List.nodup_cons]
  constructor
  · intro hm
    obtain ⟨k, hk, he⟩ := List.mem_map.1 hm
    obtain ⟨j, hj, hjk⟩ := List.getElem_of_mem ((List.mem_filter.1 hk).1)
    obtain ⟨⟨y, hy⟩, _⟩ := h.ck j hj
    have e1 : ks.getD j .nil = k := by rw [List.getD_eq_getElem?_getD, List.getElem?_eq_getElem hj]; exact hjk
    rw [e1] at hy
    have := hy.id
    have he2 : k.id = 0 := he
    omega
  · have h2 := ((ck_ids h).filter (fun k => k.c == z.id))
    rw [List.nodup_iff_pairwise_ne, List.pairwise_map]
    exact h2.imp fun hab => hab
/-- A row of things that lies in a block of things. -/
def ThOwn (w : World) (v : Value) : Prop := ∃ g n cap C, v = .slice (some ⟨g, 0, none⟩) n cap ∧ w.heap[g]? = some (.cells C 128 (0, 0))
/-- What dialOf returns. -/
def DiOut (R : Option Ci) (ks : List Ck) (w : World) (e : Ending) (w' : World) : Prop :=
  Below w.heap.size w w' ∧ match R with
    | none => e = .returned (.tuple #[.agg #[.int .i64 0, .int .i64 0, .int .i64 0, .int .i64 0, .int .i64 0, .int .i64 0, .int .i64 0, .int .i64 0, .slice none 0 0], .bool false])
    | some z => ∃ v L, e = .returned (.tuple #[.agg #[.int .i64 z.id, .int .i64 z.x, .int .i64 z.y, .int .i64 z.f, .int .i64 z.t, .int .i64 z.lo, .int .i64 z.hi, .int .i64 z.dr, v], .bool true]) ∧ ThRow w' v L ∧ OrdH L (thL z ks) ∧ ThOwn w' v
theorem info_di9 : (Tryz.prog.info? 119).map (·.size) = some 9 := by kernel_rfl
theorem set9 {w W : World} {q : Nat} {t : TypeId} {x0 x1 x2 x3 x4 x5 x6 x7 x8 : Value} (h : W.heap[q]? = some (Obj.cells #[x0, x1, x2, x3, x4, x5, x6, x7, x8] t (0, 0))) (hb : Below w.heap.size w W) (hq : w.heap.size ≤ q) (y0 y1 y2 y3 y4 y5 y6 y7 y8 : Value) :
    (((((((((W.setCell ⟨q, 0, none⟩ y0).setCell ⟨q, 1, none⟩ y1).setCell ⟨q, 2, none⟩ y2).setCell ⟨q, 3, none⟩ y3).setCell ⟨q, 4, none⟩ y4).setCell ⟨q, 5, none⟩ y5).setCell ⟨q, 6, none⟩ y6).setCell ⟨q, 7, none⟩ y7).setCell ⟨q, 8, none⟩ y8).heap[q]? = some (Obj.cells #[y0, y1, y2, y3, y4, y5, y6, y7, y8] t (0, 0)) ∧ Below w.heap.size w (((((((((W.setCell ⟨q, 0, none⟩ y0).setCell ⟨q, 1, none⟩ y1).setCell ⟨q, 2, none⟩ y2).setCell ⟨q, 3, none⟩ y3).setCell ⟨q, 4, none⟩ y4).setCell ⟨q, 5, none⟩ y5).setCell ⟨q, 6, none⟩ y6).setCell ⟨q, 7, none⟩ y7).setCell ⟨q, 8, none⟩ y8) := by
  have s0 := setS ⟨h, hb⟩ hq 0 y0
  have s1 := setS s0 hq 1 y1
  have s2 := setS s1 hq 2 y2
  have s3 := setS s2 hq 3 y3
  have s4 := setS s3 hq 4 y4
  have s5 := setS s4 hq 5 y5
  have s6 := setS s5 hq 6 y6
  have s7 := setS s6 hq 7 y7
  have s8 := setS s7 hq 8 y8
  simp only [List.setIfInBounds_toArray, List.set_cons_zero, List.set_cons_succ] at s8
  exact s8
theorem cell_add {w : World} {g : Nat} {C : Array Value} {t : TypeId} {f : Nat × Nat} (h : w.heap[g]? = some (.cells C t f)) (j : Nat) (u : Value) (hu : C.toList[j]? = some u) : w.cell? ((⟨g, 0, none⟩ : Addr).add j) = some u := by
  have e : (⟨g, 0, none⟩ : Addr).add j = ⟨g, j, none⟩ := by unfold Addr.add; split <;> simp_all
  rw [e, cellH h, ← Array.getElem?_toList]; exact hu
theorem own_neC {w : World} {b c : Nat} {e t : TypeId} {size : Nat} {v : Value} {n : Nat} {xs : List Value} {C : Array Value} {f : Nat × Nat} (h : w.ownsRow c e size v n xs) (hc : w.heap[b]? = some (.cells C t f)) (ht : t ≠ e) : v.ownBlock ≠ some b := by
  rcases h with ⟨h1, ⟨rfl, _⟩ | ⟨g, cap, cur, rfl, k2, k3, _⟩⟩
  · simp [Value.ownBlock]
  · intro q
    obtain rfl : g = b := by simpa [Value.ownBlock] using q
    rw [k3] at hc; cases hc; exact ht rfl
theorem row_formC {w : World} {base : Nat} {e : TypeId} {size : Nat} {v : Value} {n : Nat} {xs : List Value} (h : w.ownsRow base e size v n xs) : ∃ a c, v = .slice a n c := by
  rcases h.2 with ⟨rfl, rfl⟩ | ⟨g, cap, cur, rfl, _⟩
  · exact ⟨none, 0, rfl⟩
  · exact ⟨_, cap, rfl⟩
theorem row_formP {w : World} {base : Nat} {e : TypeId} {size : Nat} {v : Value} {n : Nat} {xs : List Value} (h : w.ownsRow base e size v n xs) (hn : 0 < n) : ∃ g cap, v = .slice (some ⟨g, 0, none⟩) n cap ∧ base ≤ g ∧ g < w.heap.size := by
  rcases h.2 with ⟨rfl, h0⟩ | ⟨g, cap, cur, rfl, hb, hg, _⟩
  · omega
  · exact ⟨g, cap, rfl, hb, (Array.getElem?_eq_some_iff.1 hg).1⟩
theorem ThRow.same {w w' : World} {b off n cap : Nat} {l : List Th} (h : ThRow w (.slice (some ⟨b, off, none⟩) n cap) l) (hh : w'.heap[b]? = w.heap[b]?) : ThRow w' (.slice (some ⟨b, off, none⟩) n cap) l := by
  have hc : ∀ o, w'.cell? ⟨b, o, none⟩ = w.cell? ⟨b, o, none⟩ := fun o => by unfold World.cell?; rw [hh]
  rcases h with h | ⟨b', off', c, hv, hp, h1, hat⟩
  · exact .inl h
  · cases hv
    refine .inr ⟨b, off, cap, rfl, hp, ?_, fun i hi => ?_⟩
    · rw [Array.getElem?_eq_getElem h1] at hh
      exact (Array.getElem?_eq_some_iff.1 hh).1
    · have h2 := hat i hi
      unfold ThAt at h2 ⊢
      simp only [hc]
      exact h2
theorem other9 (W : World) (q : Nat) (y0 y1 y2 y3 y4 y5 y6 y7 y8 : Value) (b : Nat) (hne : b ≠ q) : (((((((((W.setCell ⟨q, 0, none⟩ y0).setCell ⟨q, 1, none⟩ y1).setCell ⟨q, 2, none⟩ y2).setCell ⟨q, 3, none⟩ y3).setCell ⟨q, 4, none⟩ y4).setCell ⟨q, 5, none⟩ y5).setCell ⟨q, 6, none⟩ y6).setCell ⟨q, 7, none⟩ y7).setCell ⟨q, 8, none⟩ y8).heap[b]? = W.heap[b]? := by
  rw [heap_other _ _ _ _ _ hne, heap_other _ _ _ _ _ hne, heap_other _ _ _ _ _ hne, heap_other _ _ _ _ _ hne, heap_other _ _ _ _ _ hne, heap_other _ _ _ _ _ hne, heap_other _ _ _ _ _ hne, heap_other _ _ _ _ _ hne, heap_other _ _ _ _ _ hne]
theorem own_setC {w : World} {q c : Nat} {e t : TypeId} {size : Nat} {v : Value} {n : Nat} {xs : List Value} {C : Array Value} {f : Nat × Nat} (h : w.ownsRow c e size v n xs) (hq : w.heap[q]? = some (.cells C t f)) (ht : t ≠ e) (j : Nat) (u : Value) : (w.setCell ⟨q, j, none⟩ u).ownsRow c e size v n xs :=
  h.kept (row := some q) ⟨rfl, rfl, rfl, by simp, fun b hb hn => heap_other _ _ _ _ _ (fun e => hn (by rw [e]))⟩ (.inr (own_neC h hq ht))
set_option maxRecDepth 100000 in
set_option maxHeartbeats 8000000 in
theorem dialOf_any (v1 v2 : Value) (cs : List Ci) (ks : List Ck) (id : Int) (w : World) (hv1 : CiRow w v1 cs) (hv2 : CkRow w v2 ks) (ho : CcOk cs ks) :
    Calls Tryz.prog 61 #[.agg #[v1, v2], .int .i64 id] w fun e w' => DiOut (ciF cs id) ks w e w' := by
  have HV1 := Lib.hid hv1
  have HV2 := Lib.hid hv2
  have HO := Lib.hid ho
  obtain ⟨a1, c1, rfl, _⟩ := hv1.form
  obtain ⟨a2, c2, rfl, hc2⟩ := hv2.form
  have HC2 := Lib.hid hc2
  have HCO := Lib.hid (fun w' (h : Below w.heap.size w w') => circleOf_any (.slice a1 cs.length c1) cs id w' (hv1.keep h) (by have := ho.n; omega))
  have HMEM := Lib.hid (fun z => ciF_mem (l := cs) (id := id) (k := z))
  obtain ⟨R, hR⟩ : ∃ z, ciF cs id = z := ⟨_, rfl⟩
  rw [hR] at HCO HMEM ⊢
  clear hR hv1 hv2 hc2 ho
  have HA := Lib.hid (fun W' => two_cells w #[.slice a1 cs.length c1, .slice a2 ks.length c2] #[.int .i64 0, .int .i64 0, .int .i64 0, .int .i64 0, .int .i64 0, .int .i64 0, .int .i64 0, .int .i64 0, .slice none 0 0] 25 119 (W := W'))
  have HB0 := Lib.hid (Below.refl ((w.alloc (.cells #[.slice a1 cs.length c1, .slice a2 ks.length c2] 25)).alloc (.cells #[.int .i64 0, .int .i64 0, .int .i64 0, .int .i64 0, .int .i64 0, .int .i64 0, .int .i64 0, .int .i64 0, .slice none 0 0] 119)).heap.size ((w.alloc (.cells #[.slice a1 cs.length c1, .slice a2 ks.length c2] 25)).alloc (.cells #[.int .i64 0, .int .i64 0, .int .i64 0, .int .i64 0, .int .i64 0, .int .i64 0, .int .i64 0, .int .i64 0, .slice none 0 0] 119)))
  obtain ⟨Z, hZ⟩ : ∃ Z, (w.alloc (.cells #[.slice a1 cs.length c1, .slice a2 ks.length c2] 25)).alloc (.cells #[.int .i64 0, .int .i64 0, .int .i64 0, .int .i64 0, .int .i64 0, .int .i64 0, .int .i64 0, .int .i64 0, .slice none 0 0] 119) = Z := ⟨_, rfl⟩
  rw [hZ] at HA HB0
  have HZ := Lib.hid hZ
  have HRD : Hid (∀ W', Below Z.heap.size Z W' → (W'.cell? ⟨w.heap.size, 0, none⟩ = some (.slice a1 cs.length c1) ∧ W'.cell? ⟨w.heap.size, 1, none⟩ = some (.slice a2 ks.length c2)) ∧ W'.heap[w.heap.size + 1]? = some (.cells #[.int .i64 0, .int .i64 0, .int .i64 0, .int .i64 0, .int .i64 0, .int .i64 0, .int .i64 0, .int .i64 0, .slice none 0 0] 119 (0, 0)) ∧ Below w.heap.size w W') := Lib.hid (fun W' h => by
    obtain ⟨z0, z1, _, zb⟩ := HA.out W' h
    exact ⟨⟨cellH z0 0, cellH z0 1⟩, z1, zb⟩)
  clear hZ
  obtain ⟨i0, hi0, hz0, hz1, hz2⟩ := info_parts info_th
  go_enter Tryz.func61, Tryz.ntmps61
  go_wp2_with fail
  rw [HZ.out]
  refine (HCO.out Z (HRD.out Z HB0.out).2.2).mono ?_
  cases R with
  | none =>
    simp only [Option.getD_none, Ci.nil, Option.isSome_none]
    rintro e w1 ⟨rfl, hb1⟩
    have HB1 := Lib.hid (HB0.out.trans (hb1.trans ((Below.refl _ w1).alloc (Nat.le_trans (Nat.le_refl _) hb1.size) (.cells #[.int .i64 0, .int .i64 0, .int .i64 0, .int .i64 0, .int .i64 0, .int .i64 0, .int .i64 0, .int .i64 0] 93))))
    obtain ⟨w2, hw2⟩ : ∃ X, w1.alloc (.cells #[.int .i64 0, .int .i64 0, .int .i64 0, .int .i64 0, .int .i64 0, .int .i64 0, .int .i64 0, .int .i64 0] 93) = X := ⟨_, rfl⟩
    rw [hw2] at HB1
    have HW2 := Lib.hid hw2
    obtain ⟨_, z0, zb⟩ := HRD.out w2 HB1.out
    have r0 := cellH z0 0
    have r1 := cellH z0 1
    have r2 := cellH z0 2
    have r3 := cellH z0 3
    have r4 := cellH z0 4
    have r5 := cellH z0 5
    have r6 := cellH z0 6
    have r7 := cellH z0 7
    have r8 := cellH z0 8
    have rf := freeH z0
    simp only [List.getElem?_toArray, List.getElem?_cons_zero, List.getElem?_cons_succ] at r0 r1 r2 r3 r4 r5 r6 r7 r8
    have HZ0 := Lib.hid z0
    have HZB := Lib.hid zb
    rw [← hw2] at r0 r1 r2 r3 r4 r5 r6 r7 r8 rf
    clear hw2 z0 zb hb1
    go_wp2_with fail
    rw [HW2.out]
    obtain ⟨z1, z2⟩ := set9 HZ0.out HZB.out (by omega) (.int .i64 0) (.int .i64 0) (.int .i64 0) (.int .i64 0) (.int .i64 0) (.int .i64 0) (.int .i64 0) (.int .i64 0) (.slice none 0 0)
    refine bodyPost_ret (res_ct Tryz.results61 _ _ (w.heap.size + 1) 119 #[.int .i64 0, .int .i64 0, .int .i64 0, .int .i64 0, .int .i64 0, .int .i64 0, .int .i64 0, .int .i64 0, .slice none 0 0] (0, 0) _ rfl z1 Tryz.underlying119 rfl info_di9) rfl ?_
    exact ⟨z2, rfl⟩
  | some z =>
    obtain ⟨_, _, _, hzid⟩ := HMEM.out z rfl
    obtain ⟨zi, zx, zy, zf, zt, zl, zh, zd⟩ := z
    simp only [Option.getD_some, Option.isSome_some]
    simp only at hzid
    subst hzid
    rintro e w1 ⟨rfl, hb1⟩
    have HB1 := Lib.hid (HB0.out.trans hb1)
    clear hb1
    obtain ⟨b1, hb1⟩ : ∃ y, w1.heap.size = y := ⟨_, rfl⟩
    obtain ⟨W3, hW3⟩ : ∃ X, ((w1.alloc (.cells #[.int .i64 zi, .int .i64 zx, .int .i64 zy, .int .i64 zf, .int .i64 zt, .int .i64 zl, .int .i64 zh, .int .i64 zd] 93)).alloc (.cells #[.int .i64 0, .int .i64 0, .int .i64 zf, .int .i64 0, .int .i64 0, .int .i64 0, .int .i64 0, .int .i64 zl, .int .i64 zh, .bool false] 128)).alloc (.cells #[.int .i64 zi, .int .i64 zx, .int .i64 zy, .int .i64 zf, .int .i64 zt, .int .i64 zl, .int .i64 zh, .int .i64 zd, .slice (some ⟨b1 + 1, 0, none⟩) 1 1] 119) = X := ⟨_, rfl⟩
    have HW3 := Lib.hid hW3
    have H3 := Lib.hid (cells3 w1 #[.int .i64 zi, .int .i64 zx, .int .i64 zy, .int .i64 zf, .int .i64 zt, .int .i64 zl, .int .i64 zh, .int .i64 zd] #[.int .i64 0, .int .i64 0, .int .i64 zf, .int .i64 0, .int .i64 0, .int .i64 0, .int .i64 0, .int .i64 zl, .int .i64 zh, .bool false] #[.int .i64 zi, .int .i64 zx, .int .i64 zy, .int .i64 zf, .int .i64 zt, .int .i64 zl, .int .i64 zh, .int .i64 zd, .slice (some ⟨b1 + 1, 0, none⟩) 1 1] 93 128 119 (Below.refl _ _))
    rw [hW3, hb1] at H3
    have HB3 := Lib.hid (HB1.out.trans (H3.out.2.2.2.2.mono (by rw [← hb1]; exact HB1.out.size)))
    obtain ⟨⟨q0, q1⟩, _, _⟩ := HRD.out W3 HB3.out
    rw [← hW3] at q1
    have HSB : Hid (Z.heap.size ≤ b1) := Lib.hid (by rw [← hb1]; exact HB1.out.size)
    have HOW : Hid (W3.ownsRow b1 128 10 (.slice (some ⟨b1 + 1, 0, none⟩) 1 1) (thL ⟨zi, zx, zy, zf, zt, zl, zh, zd⟩ (ks.take 0)).length ((thL ⟨zi, zx, zy, zf, zt, zl, zh, zd⟩ (ks.take 0)).flatMap Th.enc)) := Lib.hid
      ⟨rfl, .inr ⟨b1 + 1, 1, _, rfl, by omega, H3.out.2.1, Nat.le_refl _, by decide, rfl, rfl⟩⟩
    clear q0 hW3
    go_wp2_with fail
    rw [HW3.out]
    clear q1 hb1
    go_loopw [35] (fun i wr => ∃ (k : Nat) (v : Value), k ≤ ks.length ∧ i = .int .i64 k ∧ Hid (Below Z.heap.size Z wr) ∧ Hid (wr.heap[b1]? = some (.cells #[.int .i64 zi, .int .i64 zx, .int .i64 zy, .int .i64 zf, .int .i64 zt, .int .i64 zl, .int .i64 zh, .int .i64 zd] 93 (0, 0))) ∧ Hid (wr.heap[b1 + 1 + 1]? = some (.cells #[.int .i64 zi, .int .i64 zx, .int .i64 zy, .int .i64 zf, .int .i64 zt, .int .i64 zl, .int .i64 zh, .int .i64 zd, v] 119 (0, 0))) ∧ Hid (wr.ownsRow b1 128 10 v (thL ⟨zi, zx, zy, zf, zt, zl, zh, zd⟩ (ks.take k)).length ((thL ⟨zi, zx, zy, zf, zt, zl, zh, zd⟩ (ks.take k)).flatMap Th.enc))) (fun i _ => ks.length - (intOf i).toNat)
    case atStart => exact ⟨0, _, Nat.zero_le _, rfl, HB3, Lib.hid H3.out.1, Lib.hid H3.out.2.2.1, HOW⟩
    case round =>
      clear HOW H3
      obtain ⟨k, v, hk, rfl, hB, hC, hD, hO⟩ := hrel
      obtain ⟨sa, sc, rfl⟩ := row_formC hO.out
      obtain ⟨⟨q0, q1⟩, z0, zb⟩ := HRD.out wr hB.out
      have hm := HO.out.m
      by_cases hkl : k < ks.length
      · obtain ⟨b, off, rfl, hb, hat⟩ := HC2.out k hkl
        obtain ⟨e0, e1, e2, e3, e4, e5, e6⟩ := hat.keep zb hb
        obtain ⟨⟨zk, hzk⟩, _⟩ := HO.out.ck k hkl
        have HTK := Lib.hid (thL_take (z := ⟨zi, zx, zy, zf, zt, zl, zh, zd⟩) hkl)
        have hki : (k : Int) < ks.length := by omega
        have hk0 : (0 : Int) ≤ k := by omega
        have HKL := Lib.hid hkl
        have HAL := Lib.hid (fun w' => allowed_any zx zy (ks.getD k .nil) w' hzk.s hzk.sl)
        have HTO : Hid (Th.of zx zy (ks.getD k .nil) = ⟨(ks.getD k .nil).id, (ks.getD k .nil).c, (ks.getD k .nil).t, (ks.getD k .nil).x, (ks.getD k .nil).y, (ks.getD k .nil).s, (ks.getD k .nil).sl, if alB zx zy (ks.getD k .nil) = true then alL zx zy (ks.getD k .nil) else 0, if alB zx zy (ks.getD k .nil) = true then alH zx zy (ks.getD k .nil) else 0, !alB zx zy (ks.getD k .nil)⟩) := Lib.hid rfl
        obtain ⟨X, hX⟩ : ∃ X, ks.getD k .nil = X := ⟨_, rfl⟩
        rw [hX] at e0 e1 e2 e3 e4 e5 e6 HTK HAL HTO
        obtain ⟨B, hBB⟩ : ∃ z, alB zx zy X = z := ⟨_, rfl⟩
        obtain ⟨L, hL⟩ : ∃ z, alL zx zy X = z := ⟨_, rfl⟩
        obtain ⟨Q, hQ⟩ : ∃ z, alH zx zy X = z := ⟨_, rfl⟩
        rw [hBB, hL, hQ] at HAL HTO
        obtain ⟨F1, hF1⟩ : ∃ z, (if B = true then L else 0) = z := ⟨_, rfl⟩
        obtain ⟨F2, hF2⟩ : ∃ z, (if B = true then Q else 0) = z := ⟨_, rfl⟩
        rw [hF1, hF2] at HAL HTO
        clear hX hBB hL hQ hF1 hF2 hzk hat hb zb z0
        obtain ⟨k0, k1, k2, k3, k4, k5, k6⟩ := X
        simp only at e0 e1 e2 e3 e4 e5 e6 HTK HAL HTO
        have HLN : Hid ((thL ⟨zi, zx, zy, zf, zt, zl, zh, zd⟩ (ks.take k)).length ≤ 61) := Lib.hid (by
          unfold thL
          rw [List.length_cons, List.length_map]
          exact Nat.le_trans (Nat.succ_le_succ (Nat.le_trans (List.length_filter_le _ _) (show _ ≤ k by rw [List.length_take]; omega))) (by omega))
        obtain ⟨N, hN⟩ : ∃ N, (thL ⟨zi, zx, zy, zf, zt, zl, zh, zd⟩ (ks.take k)).length = N := ⟨_, rfl⟩
        obtain ⟨XS, hXS⟩ : ∃ N, (thL ⟨zi, zx, zy, zf, zt, zl, zh, zd⟩ (ks.take k)).flatMap Th.enc = N := ⟨_, rfl⟩
        rw [hN] at hD HLN
        rw [hN, hXS] at hO
        have HNX := Lib.hid (show (thL ⟨zi, zx, zy, zf, zt, zl, zh, zd⟩ (ks.take k)).length = N ∧ (thL ⟨zi, zx, zy, zf, zt, zl, zh, zd⟩ (ks.take k)).flatMap Th.enc = XS from ⟨hN, hXS⟩)
        clear hN hXS
        have HBX := Lib.hid (hB.out.alloc hB.out.size (.cells #[.int .i64 k0, .int .i64 k1, .int .i64 k2, .int .i64 k3, .int .i64 k4, .int .i64 k5, .int .i64 k6] 67))
        have HQX : Hid ((wr.alloc (.cells #[.int .i64 k0, .int .i64 k1, .int .i64 k2, .int .i64 k3, .int .i64 k4, .int .i64 k5, .int .i64 k6] 67)).heap[wr.heap.size]? = some (.cells #[.int .i64 k0, .int .i64 k1, .int .i64 k2, .int .i64 k3, .int .i64 k4, .int .i64 k5, .int .i64 k6] 67 (0, 0))) := Lib.hid (heap_alloc_new _ _)
        obtain ⟨vb, hvb⟩ : ∃ z, wr.heap.size = z := ⟨_, rfl⟩
        have HCX : Hid ((wr.alloc (.cells #[.int .i64 k0, .int .i64 k1, .int .i64 k2, .int .i64 k3, .int .i64 k4, .int .i64 k5, .int .i64 k6] 67)).heap[b1]? = some (.cells #[.int .i64 zi, .int .i64 zx, .int .i64 zy, .int .i64 zf, .int .i64 zt, .int .i64 zl, .int .i64 zh, .int .i64 zd] 93 (0, 0))) := Lib.hid ((gNe _ _ _ (Nat.ne_of_lt (Array.getElem?_eq_some_iff.1 hC.out).1)).trans hC.out)
        have HDX := Lib.hid ((gNe wr (.cells #[.int .i64 k0, .int .i64 k1, .int .i64 k2, .int .i64 k3, .int .i64 k4, .int .i64 k5, .int .i64 k6] 67) (b1 + 1 + 1) (Nat.ne_of_lt (Array.getElem?_eq_some_iff.1 hD.out).1)).trans hD.out)
        have HOX := Lib.hid (hO.out.alloc (.cells #[.int .i64 k0, .int .i64 k1, .int .i64 k2, .int .i64 k3, .int .i64 k4, .int .i64 k5, .int .i64 k6] 67))
        rw [hvb] at HQX
        cases hE : (k1 == zi)
        · have HN : Hid (thL ⟨zi, zx, zy, zf, zt, zl, zh, zd⟩ (ks.take (k + 1)) = thL ⟨zi, zx, zy, zf, zt, zl, zh, zd⟩ (ks.take k)) := Lib.hid (by rw [HTK.out]; simp only [hE]; simp)
          go_wp2_with fail
          go_roundw
          case rel => exact ⟨k + 1, _, HKL.out, by go_num, HBX, HCX, HDX, Lib.hid (by rw [HN.out, HNX.out.1, HNX.out.2]; exact HOX.out)⟩
          case measure => have := HKL.out; simp [intOf]; omega
        · have HN : Hid (thL ⟨zi, zx, zy, zf, zt, zl, zh, zd⟩ (ks.take (k + 1)) = thL ⟨zi, zx, zy, zf, zt, zl, zh, zd⟩ (ks.take k) ++ [⟨k0, k1, k2, k3, k4, k5, k6, F1, F2, !B⟩]) := Lib.hid (by rw [HTK.out, if_pos hE, HTO.out])
          have y1 := cellH HCX.out 1
          have y2 := cellH HCX.out 2
          simp only [List.getElem?_toArray, List.getElem?_cons_zero, List.getElem?_cons_succ] at y1 y2
          obtain ⟨wx, hwx⟩ : ∃ X, wr.alloc (.cells #[.int .i64 k0, .int .i64 k1, .int .i64 k2, .int .i64 k3, .int .i64 k4, .int .i64 k5, .int .i64 k6] 67) = X := ⟨_, rfl⟩
          rw [hwx] at HBX HQX HCX HDX HOX
          have HWX := Lib.hid hwx
          clear hwx
          go_wp2_with fail
          rw [HWX.out]
          refine (HAL.out wx).mono ?_
          rintro e w5 ⟨rfl, hb5⟩
          have HB5 := Lib.hid (HBX.out.trans (hb5.mono HBX.out.size))
          have kp := fun {o : Nat} {ob : Obj} (h : wx.heap[o]? = some ob) => (hb5.block _ (Array.getElem?_eq_some_iff.1 h).1).trans h
          have HQ5 := Lib.hid (kp HQX.out)
          have HC5 := Lib.hid (kp HCX.out)
          have HD5 := Lib.hid (kp HDX.out)
          have HO5 := Lib.hid (ownBelow HOX.out hb5)
          clear kp hb5 y1 y2 e0 e1 e2 e3 e4 e5 e6 q0 q1
          obtain ⟨w6, hw6⟩ : ∃ X, w5.alloc (.cells #[.int .i64 F1, .int .i64 F2] 36) = X := ⟨_, rfl⟩
          have HB6 := Lib.hid (HB5.out.alloc HB5.out.size (.cells #[.int .i64 F1, .int .i64 F2] 36))
          have HS6 := Lib.hid (heap_alloc_new w5 (.cells #[.int .i64 F1, .int .i64 F2] 36))
          have kp := fun {o : Nat} {ob : Obj} (h : w5.heap[o]? = some ob) => (gNe w5 (.cells #[.int .i64 F1, .int .i64 F2] 36) o (Nat.ne_of_lt (Array.getElem?_eq_some_iff.1 h).1)).trans h
          have HQ6 := Lib.hid (kp HQ5.out)
          have HD6 := Lib.hid (kp HD5.out)
          have HC6 := Lib.hid (kp HC5.out)
          have HO6 := Lib.hid (HO5.out.alloc (.cells #[.int .i64 F1, .int .i64 F2] 36))
          have s0 := cellH HQ6.out 0
          have s1 := cellH HQ6.out 1
          have s2 := cellH HQ6.out 2
          have s3 := cellH HQ6.out 3
          have s4 := cellH HQ6.out 4
          have s5 := cellH HQ6.out 5
          have s6 := cellH HQ6.out 6
          have d8 := cellH HD6.out 8
          simp only [List.getElem?_toArray, List.getElem?_cons_zero, List.getElem?_cons_succ] at s0 s1 s2 s3 s4 s5 s6 d8
          have hO7 := HO6.out.alloc (.cells #[.int .i64 k0, .int .i64 k1, .int .i64 k2, .int .i64 k3, .int .i64 k4, .int .i64 k5, .int .i64 k6, .int .i64 F1, .int .i64 F2, .bool (!B)] 128)
          have hsz : (w5.alloc (.cells #[.int .i64 F1, .int .i64 F2] 36)).heap.size = w5.heap.size + 1 := by simp
          have HNW := Lib.hid (fun j u => cell_add (heap_alloc_new (w5.alloc (.cells #[.int .i64 F1, .int .i64 F2] 36)) (.cells #[.int .i64 k0, .int .i64 k1, .int .i64 k2, .int .i64 k3, .int .i64 k4, .int .i64 k5, .int .i64 k6, .int .i64 F1, .int .i64 F2, .bool (!B)] 128)) j u)
          rw [hsz] at HNW
          have HB7 := Lib.hid (HB6.out.alloc HB6.out.size (.cells #[.int .i64 k0, .int .i64 k1, .int .i64 k2, .int .i64 k3, .int .i64 k4, .int .i64 k5, .int .i64 k6, .int .i64 F1, .int .i64 F2, .bool (!B)] 128))
          have HD7 := Lib.hid ((gNe (w5.alloc (.cells #[.int .i64 F1, .int .i64 F2] 36)) (.cells #[.int .i64 k0, .int .i64 k1, .int .i64 k2, .int .i64 k3, .int .i64 k4, .int .i64 k5, .int .i64 k6, .int .i64 F1, .int .i64 F2, .bool (!B)] 128) (b1 + 1 + 1) (Nat.ne_of_lt (Array.getElem?_eq_some_iff.1 HD6.out).1)).trans HD6.out)
          have HC7 := Lib.hid ((gNe (w5.alloc (.cells #[.int .i64 F1, .int .i64 F2] 36)) (.cells #[.int .i64 k0, .int .i64 k1, .int .i64 k2, .int .i64 k3, .int .i64 k4, .int .i64 k5, .int .i64 k6, .int .i64 F1, .int .i64 F2, .bool (!B)] 128) b1 (Nat.ne_of_lt (Array.getElem?_eq_some_iff.1 HC6.out).1)).trans HC6.out)
          have hbase : b1 ≤ ((w5.alloc (.cells #[.int .i64 F1, .int .i64 F2] 36)).alloc (.cells #[.int .i64 k0, .int .i64 k1, .int .i64 k2, .int .i64 k3, .int .i64 k4, .int .i64 k5, .int .i64 k6, .int .i64 F1, .int .i64 F2, .bool (!B)] 128)).heap.size := Nat.le_of_lt (Array.getElem?_eq_some_iff.1 HC7.out).1
          have hln := HLN.out
          have hlen : N + 1 ≤ maxLen := by unfold maxLen; omega
          have hby : (N + 1) * 80 ≤ 140737488355328 := by omega
          clear kp hw6 hsz
          go_wp2_with (at_builtin; go_loud (
            refine wpList_append_own _ rfl _ _ 117 rfl b1 128 i0 (.agg #[.int .i64 0, .int .i64 0, .int .i64 0, .int .i64 0, .int .i64 0, .int .i64 0, .int .i64 0, .int .i64 0, .int .i64 0, .bool false]) 10 80 Tryz.underlying117 hi0 hz0 hz1 hz2 rfl (by decide) _ _ _ rfl hO7 ⟨w5.heap.size + 1, 0, none⟩ 1 1 [.int .i64 k0, .int .i64 k1, .int .i64 k2, .int .i64 k3, .int .i64 k4, .int .i64 k5, .int .i64 k6, .int .i64 F1, .int .i64 F2, .bool (!B)] rfl rfl HNW.out (by simp [Value.oneCell']) hlen hby hbase ?_
            intro v' w9 hown' hgrow _
            obtain ⟨va, vc, rfl⟩ := row_formC hown'
            have HD9 := Lib.hid ((hgrow.block _ (Array.getElem?_eq_some_iff.1 HD7.out).1 (fun e => own_neC hO7 HD7.out (by decide) e.symm)).trans HD7.out)
            have HC9 := Lib.hid ((hgrow.block _ (Array.getElem?_eq_some_iff.1 HC7.out).1 (fun e => own_neC hO7 HC7.out (by decide) e.symm)).trans HC7.out)
            have HB9 := Lib.hid (HB7.out.grown hgrow HB7.out.size (fun j e => Nat.le_trans HSB.out (World.ownsRow.lt hO7 j e).1))
            have HO9 := Lib.hid hown'
            have d8 := cellH HD9.out 8
            have df := freeH HD9.out
            simp only [List.getElem?_toArray, List.getElem?_cons_zero, List.getElem?_cons_succ] at d8
            clear hown' hgrow hO7 hln hlen hby hbase s0 s1 s2 s3 s4 s5 s6))
          have HDE : Hid ((w9.setCell ⟨b1 + 1 + 1, 8, none⟩ (.slice va (N + 1) vc)).heap[b1 + 1 + 1]? = some (.cells #[.int .i64 zi, .int .i64 zx, .int .i64 zy, .int .i64 zf, .int .i64 zt, .int .i64 zl, .int .i64 zh, .int .i64 zd, .slice va (N + 1) vc] 119 (0, 0))) := Lib.hid (heap_same HD9.out 8 _)
          have HCEQ := Lib.hid ((heap_other w9 (b1 + 1 + 1) 8 (.slice va (N + 1) vc) b1 (by omega)).trans HC9.out)
          have HBE := Lib.hid (HB9.out.setCell (p := ⟨b1 + 1 + 1, 8, none⟩) (by have := HSB.out; simp only; omega) (.slice va (N + 1) vc))
          have HOE := Lib.hid (own_setC HO9.out HD9.out (by decide) 8 (.slice va (N + 1) vc))
          go_roundw
          case rel => exact ⟨k + 1, _, HKL.out, by go_num, HBE, HCEQ, HDE, Lib.hid (by rw [HN.out, List.length_append, List.flatMap_append, HNX.out.1, HNX.out.2]; exact HOE.out)⟩
          case measure => have := HKL.out; simp [intOf]; omega
      · obtain rfl : k = ks.length := by omega
        have hTE : ks.take ks.length = ks := List.take_length
        rw [hTE] at hO hD
        have HOF := Lib.hid hO.out
        have d8 := cellH hD.out 8
        simp only [List.getElem?_toArray, List.getElem?_cons_zero, List.getElem?_cons_succ] at d8
        have HBF := Lib.hid hB.out
        have HDF := Lib.hid hD.out
        have HIDS := Lib.hid (thL_ids HO.out ⟨zi, zx, zy, zf, zt, zl, zh, zd⟩)
        have HNZ : Hid (0 < (thL ⟨zi, zx, zy, zf, zt, zl, zh, zd⟩ ks).length ∧ (thL ⟨zi, zx, zy, zf, zt, zl, zh, zd⟩ ks).length ≤ 61) := Lib.hid (by
          unfold thL
          rw [List.length_cons, List.length_map]
          exact ⟨Nat.succ_pos _, Nat.le_trans (Nat.succ_le_succ (List.length_filter_le _ _)) (by omega)⟩)
        obtain ⟨g, cap, hge, hgb, hgl⟩ := row_formP hO.out HNZ.out.1
        cases hge
        have HSO := Lib.hid (hsort_some HIDS.out (by have := HNZ.out.2; omega) wr hO.out)
        have HNE := Lib.hid (own_neC hO.out hD.out (by decide))
        clear hTE hO hD hC hB hm hk hkl q0 q1 z0 zb
        go_wp2_with fail
        refine HSO.out.mono ?_
        rintro e w2 ⟨rfl, L, hL, hpw, hpm, hgr, hcl⟩
        have HCL := Lib.hid hcl
        have HBG := Lib.hid (HBF.out.grown hgr HBF.out.size (fun j e => by cases e; exact Nat.le_trans HSB.out hgb))
        have HDG := Lib.hid ((hgr.block _ (Array.getElem?_eq_some_iff.1 HDF.out).1 (fun e => HNE.out (by cases e; rfl))).trans HDF.out)
        obtain ⟨_, z0, zb⟩ := HRD.out w2 HBG.out
        have HZ0 := Lib.hid z0
        have HZB := Lib.hid zb
        have HLL := Lib.hid hL
        have HOR := Lib.hid (show OrdH L (thL ⟨zi, zx, zy, zf, zt, zl, zh, zd⟩ ks) from ⟨hpm, hpw⟩)
        have r0 := cellH z0 0
        have r1 := cellH z0 1
        have r2 := cellH z0 2
        have r3 := cellH z0 3
        have r4 := cellH z0 4
        have r5 := cellH z0 5
        have r6 := cellH z0 6
        have r7 := cellH z0 7
        have r8 := cellH z0 8
        have g0 := cellH HDG.out 0
        have g1 := cellH HDG.out 1
        have g2 := cellH HDG.out 2
        have g3 := cellH HDG.out 3
        have g4 := cellH HDG.out 4
        have g5 := cellH HDG.out 5
        have g6 := cellH HDG.out 6
        have g7 := cellH HDG.out 7
        have g8 := cellH HDG.out 8
        have rf := freeH z0
        simp only [List.getElem?_toArray, List.getElem?_cons_zero, List.getElem?_cons_succ] at r0 r1 r2 r3 r4 r5 r6 r7 r8 g0 g1 g2 g3 g4 g5 g6 g7 g8
        clear hL hpw hpm hgr hcl z0 zb d8
        go_wp2_with fail
        obtain ⟨z1, z2⟩ := set9 HZ0.out HZB.out (by omega) (.int .i64 zi) (.int .i64 zx) (.int .i64 zy) (.int .i64 zf) (.int .i64 zt) (.int .i64 zl) (.int .i64 zh) (.int .i64 zd) (.slice (some ⟨g, 0, none⟩) (thL ⟨zi, zx, zy, zf, zt, zl, zh, zd⟩ ks).length sc)
        refine bodyPost_ret (res_ct Tryz.results61 _ _ (w.heap.size + 1) 119 #[.int .i64 zi, .int .i64 zx, .int .i64 zy, .int .i64 zf, .int .i64 zt, .int .i64 zl, .int .i64 zh, .int .i64 zd, .slice (some ⟨g, 0, none⟩) (thL ⟨zi, zx, zy, zf, zt, zl, zh, zd⟩ ks).length sc] (0, 0) _ rfl z1 Tryz.underlying119 rfl info_di9) rfl ?_
        have hne : g ≠ w.heap.size + 1 := by have := HSB.out; have h2 := HB0.out.size; have h3 := hgb; have h4 := (HA.out Z HB0.out).2.2.1; omega
        obtain ⟨C, hC⟩ := HCL.out
        exact ⟨z2, _, L, rfl, HLL.out.same (other9 _ _ _ _ _ _ _ _ _ _ _ _ hne), HOR.out, g, _, _, C, rfl, (other9 _ _ _ _ _ _ _ _ _ _ _ _ hne).trans hC⟩
end Go.Proofs.YtebdboacmeafaaaGreat
/- Package circle: far, low, high, clash. -/
set_option linter.unusedVariables false
set_option linter.unusedSimpArgs false
namespace Go.Proofs.YtebdboacmeafaaaGreat
open Go Go.RowKit

/-- A circle with its things as a value. -/
abbrev dlV (z : Ci) (v : Value) : Value := .agg #[.int .i64 z.id, .int .i64 z.x, .int .i64 z.y, .int .i64 z.f, .int .i64 z.t, .int .i64 z.lo, .int .i64 z.hi, .int .i64 z.dr, v]
/-- How far a zero drifts. -/
def frI (dr s t : Int) : Int := (dr * max (s - t) (t - s) + 59) / 60
theorem fr_mul {dr s t : Int} (hd : 0 ≤ dr ∧ dr ≤ 60) (hs : 0 ≤ s ∧ s ≤ 1048576) (ht : 0 ≤ t ∧ t ≤ 1048576) : (0 ≤ dr * max (s - t) (t - s) ∧ dr * max (s - t) (t - s) ≤ 60 * 1048576) ∧ 0 ≤ frI dr s t ∧ frI dr s t ≤ 1048576 := by
  have h1 : 0 ≤ dr * max (s - t) (t - s) := Int.mul_nonneg hd.1 (by omega)
  have h2 : dr * max (s - t) (t - s) ≤ 60 * 1048576 := Int.mul_le_mul hd.2 (by omega) (by omega) (by omega)
  refine ⟨⟨h1, h2⟩, ?_, ?_⟩
  · unfold frI; exact Int.ediv_nonneg (by omega) (by decide)
  · unfold frI; omega
/-- The worlds and frames in the head of a region. -/
def FrInv (W1 : World) (p3 : Nat) (dr s t m p F : Int) (u0 u4 u5 u6 u7 u8 u9 u10 u11 u12 u13 u14 u15 u16 u17 u18 u19 u20 u21 : Value) (listed : Array Bool) (a : Act) (w' : World) : Prop :=
  ∃ (l0 l1 l2 l3 l4 l5 l6 l7 l8 l9 l10 l11 l12 l13 l14 : Bool) (A : Nat), listed = #[l0, l1, l2, l3, l4, l5, l6, l7, l8, l9, l10, l11, l12, l13, l14, false] ∧ a = { tmps := #[u0, .int .i64 s, .int .i64 t, .pointer (some ⟨p3, 0, none⟩), u4, u5, u6, pkIf l0 (.pointer (some ⟨p3, 0, none⟩)) (u7), pkIf l1 (.pointer (some ⟨p3, 7, none⟩)) (u8), pkIf l2 (.int .i64 dr) (u9), pkIf l3 (.int .i64 s) (u10), pkIf l4 (.int .i64 t) (u11), pkIf l5 (.int .i64 (s - t)) (u12), pkIf l6 (.int .i64 t) (u13), pkIf l7 (.int .i64 s) (u14), pkIf l8 (.int .i64 (t - s)) (u15), pkIf l9 (.slice (some ⟨A, 0, none⟩) 1 1) (u16), pkIf l10 (.int .i64 m) (u17), pkIf l11 (.int .i64 p) (u18), pkIf l12 (.int .i64 (p + 60)) (u19), pkIf l13 (.int .i64 (p + 60 - 1)) (u20), pkIf l14 (.int .i64 F) (u21)], defers := [] } ∧ Below W1.heap.size W1 w' ∧ (l9 = true → W1.heap.size ≤ A ∧ w'.heap[A]? = some (.cells #[.int .i64 (t - s)] 3 (0, 0)))
set_option maxRecDepth 100000 in
set_option maxHeartbeats 4000000 in
theorem far_any (z : Ci) (v : Value) (s t : Int) (w : World) (hd : 0 ≤ z.dr ∧ z.dr ≤ 60) (hs : 0 ≤ s ∧ s ≤ 1048576) (ht : 0 ≤ t ∧ t ≤ 1048576) :
    Calls Tryz.prog 75 #[dlV z v, .int .i64 s, .int .i64 t] w fun e w' => e = .returned (.int .i64 (frI z.dr s t)) ∧ Below w.heap.size w w' := by
  obtain ⟨zi, zx, zy, zf, zt, zl, zh, dr⟩ := z
  simp only at hd ⊢
  obtain ⟨⟨p1, p2⟩, p3, p4⟩ := fr_mul hd hs ht
  have HFR : Hid (frI dr s t = (dr * max (s - t) (t - s) + 59) / 60) := Lib.hid rfl
  obtain ⟨m, hm⟩ : ∃ m, max (s - t) (t - s) = m := ⟨_, rfl⟩
  rw [hm] at p1 p2 HFR
  obtain ⟨F, hF⟩ : ∃ m, frI dr s t = m := ⟨_, rfl⟩
  rw [hF] at HFR p3 p4 ⊢
  obtain ⟨p, hp⟩ : ∃ m, dr * m = m := ⟨0, by simp⟩
  clear hp p
  obtain ⟨p, hp⟩ : ∃ q, dr * m = q := ⟨_, rfl⟩
  rw [hp] at p1 p2 HFR
  have e1 : IntKind.i64.wrap (s - t) = s - t := IntWalk.i64_in _ (by omega)
  have e2 : IntKind.i64.wrap (t - s) = t - s := IntWalk.i64_in _ (by omega)
  have e3 : IntKind.i64.wrap p = p := IntWalk.i64_in _ (by omega)
  have e4 : IntKind.i64.wrap (p + 60) = p + 60 := IntWalk.i64_in _ (by omega)
  have e5 : IntKind.i64.wrap (p + 60 - 1) = p + 60 - 1 := IntWalk.i64_in _ (by omega)
  have e6 : (p + 60 - 1).tdiv 60 = F := by rw [Int.tdiv_eq_ediv_of_nonneg (by omega), HFR.out]; congr 1; omega
  have e7 : IntKind.i64.wrap F = F := IntWalk.i64_in _ (by omega)
  have hmx : maxL (s - t) [t - s] = m := hm
  have HGR : Hid (∀ (w' : World) (A : Nat), w'.heap[A]? = some (.cells #[.int .i64 (t - s)] 3 (0, 0)) → Calls Tryz.prog 76 #[.int .i64 (s - t), .slice (some ⟨A, 0, none⟩) 1 1] w' fun e w'' => e = .returned (.int .i64 m) ∧ w'' = w') := Lib.hid (fun w' A hA => by
    have h := greatest_any (s - t) _ [t - s] w' (row_one (t - s) hA) (by simp)
    rwa [hmx] at h)
  clear hmx hm hF p1 p2 p3 p4 hd hs ht
  have HA := Lib.hid (fun W' => cells1 w #[.int .i64 zi, .int .i64 zx, .int .i64 zy, .int .i64 zf, .int .i64 zt, .int .i64 zl, .int .i64 zh, .int .i64 dr, v] 119 (W := W'))
  have HB0 := Lib.hid (Below.refl (w.alloc (.cells #[.int .i64 zi, .int .i64 zx, .int .i64 zy, .int .i64 zf, .int .i64 zt, .int .i64 zl, .int .i64 zh, .int .i64 dr, v] 119)).heap.size (w.alloc (.cells #[.int .i64 zi, .int .i64 zx, .int .i64 zy, .int .i64 zf, .int .i64 zt, .int .i64 zl, .int .i64 zh, .int .i64 dr, v] 119)))
  obtain ⟨Z, hZ⟩ : ∃ Z, w.alloc (.cells #[.int .i64 zi, .int .i64 zx, .int .i64 zy, .int .i64 zf, .int .i64 zt, .int .i64 zl, .int .i64 zh, .int .i64 dr, v] 119) = Z := ⟨_, rfl⟩
  rw [hZ] at HA HB0
  have HZ := Lib.hid hZ
  have HRD : Hid (∀ W', Below Z.heap.size Z W' → W'.cell? ⟨w.heap.size, 7, none⟩ = some (.int .i64 dr) ∧ Below w.heap.size w W') := Lib.hid (fun W' h => by
    obtain ⟨x1, _, x3⟩ := HA.out W' h
    exact ⟨cellH x1 7, x3⟩)
  clear hZ
  go_enter Tryz.func75, Tryz.ntmps75
  go_wp2_with fail
  rw [HZ.out]
  refine wp_region_invtail 15 (by kernel_rfl) (by kernel_rfl) (by kernel_rfl) (by kernel_rfl) (of_decide_eq_true (by kernel_rfl)) (by kernel_rfl) (FrInv Z w.heap.size dr s t m p F _ _ _ _ _ _ _ _ _ _ _ _ _ _ _ _ _ _ _) ⟨false, false, false, false, false, false, false, false, false, false, false, false, false, false, false, 0, rfl, rfl, (Below.refl _ _).drew, by simp⟩ ?hend ?hstep
  case hend =>
    rintro listed a w' ⟨l0, l1, l2, l3, l4, l5, l6, l7, l8, l9, l10, l11, l12, l13, l14, A, rfl, rfl, hb, hA⟩ hall
    have hal : l0 = true ∧ l1 = true ∧ l2 = true ∧ l3 = true ∧ l4 = true ∧ l5 = true ∧ l6 = true ∧ l7 = true ∧ l8 = true ∧ l9 = true ∧ l10 = true ∧ l11 = true ∧ l12 = true ∧ l13 = true ∧ l14 = true := ⟨by simpa using hall 0 (by decide), by simpa using hall 1 (by decide), by simpa using hall 2 (by decide), by simpa using hall 3 (by decide), by simpa using hall 4 (by decide), by simpa using hall 5 (by decide), by simpa using hall 6 (by decide), by simpa using hall 7 (by decide), by simpa using hall 8 (by decide), by simpa using hall 9 (by decide), by simpa using hall 10 (by decide), by simpa using hall 11 (by decide), by simpa using hall 12 (by decide), by simpa using hall 13 (by decide), by simpa using hall 14 (by decide)⟩
    obtain ⟨rfl, rfl, rfl, rfl, rfl, rfl, rfl, rfl, rfl, rfl, rfl, rfl, rfl, rfl, rfl⟩ := hal
    obtain ⟨gA, hA⟩ := hA rfl
    simp only [pkIf_true, List.drop_succ_cons, List.drop_zero]
    clear hall
    have HBE := Lib.hid (HRD.out _ hb).2
    clear hb hA gA
    go_wp2_with fail
    go_ret
    exact ⟨rfl, HBE.out⟩
  case hstep =>
    rintro listed a w' i ⟨l0, l1, l2, l3, l4, l5, l6, l7, l8, l9, l10, l11, l12, l13, l14, A, rfl, rfl, hb, hA⟩ hi hin
    obtain ⟨hf, o', ho', hp⟩ := mem_ready.1 hi
    clear hi
    obtain ⟨q7, q8⟩ := HRD.out w' hb
    match i, hin with
    | 0, _ =>
      obtain rfl : l0 = false := by simpa using hf
      clear hp ho'
      unfold wpOp
      simp only [pkIf_true]
      go_simp
      exact .inl ⟨true, l1, l2, l3, l4, l5, l6, l7, l8, l9, l10, l11, l12, l13, l14, A, rfl, rfl, hb, hA⟩
    | 1, _ =>
      obtain rfl : l1 = false := by simpa using hf
      cases ho'
      obtain rfl : l0 = true := by simpa using hp ⟨0, .data⟩ (by simp) rfl
      clear hp
      unfold wpOp
      simp only [pkIf_true]
      go_simp
      exact .inl ⟨true, true, l2, l3, l4, l5, l6, l7, l8, l9, l10, l11, l12, l13, l14, A, rfl, rfl, hb, hA⟩
    | 2, _ =>
      obtain rfl : l2 = false := by simpa using hf
      cases ho'
      obtain rfl : l1 = true := by simpa using hp ⟨1, .data⟩ (by simp) rfl
      clear hp
      unfold wpOp
      simp only [pkIf_true]
      go_simp
      exact .inl ⟨l0, true, true, l3, l4, l5, l6, l7, l8, l9, l10, l11, l12, l13, l14, A, rfl, rfl, hb, hA⟩
    | 3, _ =>
      obtain rfl : l3 = false := by simpa using hf
      clear hp ho'
      unfold wpOp
      simp only [pkIf_true]
      go_simp
      exact .inl ⟨l0, l1, l2, true, l4, l5, l6, l7, l8, l9, l10, l11, l12, l13, l14, A, rfl, rfl, hb, hA⟩
    | 4, _ =>
      obtain rfl : l4 = false := by simpa using hf
      clear hp ho'
      unfold wpOp
      simp only [pkIf_true]
      go_simp
      exact .inl ⟨l0, l1, l2, l3, true, l5, l6, l7, l8, l9, l10, l11, l12, l13, l14, A, rfl, rfl, hb, hA⟩
    | 5, _ =>
      obtain rfl : l5 = false := by simpa using hf
      cases ho'
      obtain rfl : l3 = true := by simpa using hp ⟨3, .data⟩ (by simp) rfl
      obtain rfl : l4 = true := by simpa using hp ⟨4, .data⟩ (by simp) rfl
      clear hp
      unfold wpOp
      simp only [pkIf_true]
      go_simp
      exact .inl ⟨l0, l1, l2, true, true, true, l6, l7, l8, l9, l10, l11, l12, l13, l14, A, rfl, rfl, hb, hA⟩
    | 6, _ =>
      obtain rfl : l6 = false := by simpa using hf
      clear hp ho'
      unfold wpOp
      simp only [pkIf_true]
      go_simp
      exact .inl ⟨l0, l1, l2, l3, l4, l5, true, l7, l8, l9, l10, l11, l12, l13, l14, A, rfl, rfl, hb, hA⟩
    | 7, _ =>
      obtain rfl : l7 = false := by simpa using hf
      clear hp ho'
      unfold wpOp
      simp only [pkIf_true]
      go_simp
      exact .inl ⟨l0, l1, l2, l3, l4, l5, l6, true, l8, l9, l10, l11, l12, l13, l14, A, rfl, rfl, hb, hA⟩
    | 8, _ =>
      obtain rfl : l8 = false := by simpa using hf
      cases ho'
      obtain rfl : l6 = true := by simpa using hp ⟨6, .data⟩ (by simp) rfl
      obtain rfl : l7 = true := by simpa using hp ⟨7, .data⟩ (by simp) rfl
      clear hp
      unfold wpOp
      simp only [pkIf_true]
      go_simp
      exact .inl ⟨l0, l1, l2, l3, l4, l5, true, true, true, l9, l10, l11, l12, l13, l14, A, rfl, rfl, hb, hA⟩
    | 9, _ =>
      obtain rfl : l9 = false := by simpa using hf
      cases ho'
      obtain rfl : l8 = true := by simpa using hp ⟨8, .data⟩ (by simp) rfl
      clear hp
      unfold wpOp
      simp only [pkIf_true]
      go_simp
      exact .inl ⟨l0, l1, l2, l3, l4, l5, l6, l7, true, true, l10, l11, l12, l13, l14, w'.heap.size, rfl, rfl, hb.alloc hb.size _, fun _ => ⟨hb.size, heap_alloc_new _ _⟩⟩
    | 10, _ =>
      obtain rfl : l10 = false := by simpa using hf
      cases ho'
      obtain rfl : l5 = true := by simpa using hp ⟨5, .data⟩ (by simp) rfl
      obtain rfl : l9 = true := by simpa using hp ⟨9, .data⟩ (by simp) rfl
      clear hp
      unfold wpOp
      simp only [pkIf_true]
      go_simp
      refine .inl ((HGR.out w' A (hA rfl).2).mono ?_)
      rintro e w9 ⟨rfl, rfl⟩
      exact ⟨l0, l1, l2, l3, l4, true, l6, l7, l8, true, true, l11, l12, l13, l14, A, rfl, rfl, hb, hA⟩
    | 11, _ =>
      obtain rfl : l11 = false := by simpa using hf
      cases ho'
      obtain rfl : l2 = true := by simpa using hp ⟨2, .data⟩ (by simp) rfl
      obtain rfl : l10 = true := by simpa using hp ⟨10, .data⟩ (by simp) rfl
      clear hp
      unfold wpOp
      simp only [pkIf_true]
      go_simp
      exact .inl ⟨l0, l1, true, l3, l4, l5, l6, l7, l8, l9, true, true, l12, l13, l14, A, rfl, rfl, hb, hA⟩
    | 12, _ =>
      obtain rfl : l12 = false := by simpa using hf
      cases ho'
      obtain rfl : l11 = true := by simpa using hp ⟨11, .data⟩ (by simp) rfl
      clear hp
      unfold wpOp
      simp only [pkIf_true]
      go_simp
      exact .inl ⟨l0, l1, l2, l3, l4, l5, l6, l7, l8, l9, l10, true, true, l13, l14, A, rfl, rfl, hb, hA⟩
    | 13, _ =>
      obtain rfl : l13 = false := by simpa using hf
      cases ho'
      obtain rfl : l12 = true := by simpa using hp ⟨12, .data⟩ (by simp) rfl
      clear hp
      unfold wpOp
      simp only [pkIf_true]
      go_simp
      exact .inl ⟨l0, l1, l2, l3, l4, l5, l6, l7, l8, l9, l10, l11, true, true, l14, A, rfl, rfl, hb, hA⟩
    | 14, _ =>
      obtain rfl : l14 = false := by simpa using hf
      cases ho'
      obtain rfl : l13 = true := by simpa using hp ⟨13, .data⟩ (by simp) rfl
      clear hp
      unfold wpOp
      simp only [pkIf_true]
      go_simp
      exact .inl ⟨l0, l1, l2, l3, l4, l5, l6, l7, l8, l9, l10, l11, l12, true, true, A, rfl, rfl, hb, hA⟩
def lowI (dr : Int) (h : Th) (t : Int) : Int := h.lo - frI dr h.t t
set_option maxRecDepth 100000 in
set_option maxHeartbeats 4000000 in
theorem dlow_any (z : Ci) (v : Value) (h : Th) (t : Int) (w : World) (hd : 0 ≤ z.dr ∧ z.dr ≤ 60) (hs : 0 ≤ h.t ∧ h.t ≤ 1048576) (ht : 0 ≤ t ∧ t ≤ 1048576) (hz : -300 ≤ h.lo ∧ h.lo ≤ 300) :
    Calls Tryz.prog 90 #[dlV z v, h.val, .int .i64 t] w fun e w' => e = .returned (.int .i64 (lowI z.dr h t)) ∧ Below w.heap.size w w' := by
  obtain ⟨hi', hc, htk, hx, hy, hss, hsl, hlo, hhi, hno⟩ := h
  simp only at hs hz
  have HFA := Lib.hid (fun w' => far_any z v htk t w' hd hs ht)
  have hb2 := (fr_mul hd hs ht).2
  unfold lowI
  simp only
  obtain ⟨F, hF⟩ : ∃ m, frI z.dr htk t = m := ⟨_, rfl⟩
  rw [hF] at HFA hb2 ⊢
  have e1 : IntKind.i64.wrap (hlo - F) = hlo - F := IntWalk.i64_in _ (by omega)
  obtain ⟨zi, zx, zy, zf, zt, zl, zh, dr⟩ := z
  clear hd hs ht hz hb2 hF
  have HA := Lib.hid (fun W' => two_cells w #[.int .i64 zi, .int .i64 zx, .int .i64 zy, .int .i64 zf, .int .i64 zt, .int .i64 zl, .int .i64 zh, .int .i64 dr, v] #[.int .i64 hi', .int .i64 hc, .int .i64 htk, .int .i64 hx, .int .i64 hy, .int .i64 hss, .int .i64 hsl, .int .i64 hlo, .int .i64 hhi, .bool hno] 119 128 (W := W'))
  have HB0 := Lib.hid (Below.refl ((w.alloc (.cells #[.int .i64 zi, .int .i64 zx, .int .i64 zy, .int .i64 zf, .int .i64 zt, .int .i64 zl, .int .i64 zh, .int .i64 dr, v] 119)).alloc (.cells #[.int .i64 hi', .int .i64 hc, .int .i64 htk, .int .i64 hx, .int .i64 hy, .int .i64 hss, .int .i64 hsl, .int .i64 hlo, .int .i64 hhi, .bool hno] 128)).heap.size ((w.alloc (.cells #[.int .i64 zi, .int .i64 zx, .int .i64 zy, .int .i64 zf, .int .i64 zt, .int .i64 zl, .int .i64 zh, .int .i64 dr, v] 119)).alloc (.cells #[.int .i64 hi', .int .i64 hc, .int .i64 htk, .int .i64 hx, .int .i64 hy, .int .i64 hss, .int .i64 hsl, .int .i64 hlo, .int .i64 hhi, .bool hno] 128)))
  obtain ⟨Z, hZ⟩ : ∃ Z, (w.alloc (.cells #[.int .i64 zi, .int .i64 zx, .int .i64 zy, .int .i64 zf, .int .i64 zt, .int .i64 zl, .int .i64 zh, .int .i64 dr, v] 119)).alloc (.cells #[.int .i64 hi', .int .i64 hc, .int .i64 htk, .int .i64 hx, .int .i64 hy, .int .i64 hss, .int .i64 hsl, .int .i64 hlo, .int .i64 hhi, .bool hno] 128) = Z := ⟨_, rfl⟩
  rw [hZ] at HA HB0
  have HZ := Lib.hid hZ
  have HRD : Hid (∀ W', Below Z.heap.size Z W' → (W'.cell? ⟨w.heap.size, 0, none⟩ = some (.int .i64 zi) ∧ W'.cell? ⟨w.heap.size, 1, none⟩ = some (.int .i64 zx) ∧ W'.cell? ⟨w.heap.size, 2, none⟩ = some (.int .i64 zy) ∧ W'.cell? ⟨w.heap.size, 3, none⟩ = some (.int .i64 zf) ∧ W'.cell? ⟨w.heap.size, 4, none⟩ = some (.int .i64 zt) ∧ W'.cell? ⟨w.heap.size, 5, none⟩ = some (.int .i64 zl) ∧ W'.cell? ⟨w.heap.size, 6, none⟩ = some (.int .i64 zh) ∧ W'.cell? ⟨w.heap.size, 7, none⟩ = some (.int .i64 dr) ∧ W'.cell? ⟨w.heap.size, 8, none⟩ = some v) ∧ (W'.cell? ⟨w.heap.size + 1, 2, none⟩ = some (.int .i64 htk) ∧ W'.cell? ⟨w.heap.size + 1, 7, none⟩ = some (.int .i64 hlo) ∧ W'.cell? ⟨w.heap.size + 1, 8, none⟩ = some (.int .i64 hhi)) ∧ Below w.heap.size w W') := Lib.hid (fun W' h => by
    obtain ⟨x1, x2, _, x3⟩ := HA.out W' h
    exact ⟨⟨cellH x1 0, cellH x1 1, cellH x1 2, cellH x1 3, cellH x1 4, cellH x1 5, cellH x1 6, cellH x1 7, cellH x1 8⟩, ⟨cellH x2 2, cellH x2 7, cellH x2 8⟩, x3⟩)
  have C1 := Lib.hid (upC (Z := Z) HFA.out)
  clear hZ
  go_enter Tryz.func90, Tryz.ntmps90
  go_wp2_with fail
  rw [HZ.out]
  refine wp_region_turn 10 (fun _ w' => Below Z.heap.size Z w') (by kernel_rfl) (by kernel_rfl) ((Below.refl _ Z).drew) ?_
  simp only [List.take_succ_cons, List.take_zero, List.drop_succ_cons, List.drop_zero]
  iterate 10
    (first
      | (apply turnC_step (by rfl); (intro w' hw'; obtain ⟨⟨q0, q1, q2, q3, q4, q5, q6, q7, q8⟩, ⟨r0, r1, r2⟩, _⟩ := HRD.out w' hw'; go_simp; first | with_reducible exact ⟨hw', congrArg (Value.int .i64) e1⟩ | with_reducible exact ⟨hw', rfl⟩ | with_reducible exact rfl))
      | (apply turnC_step (by rfl); (intro w' hw'; go_simp; with_reducible exact C1.out w' hw')))
    simp only [Act.put, List.setIfInBounds_toArray, List.set_cons_succ, List.set_cons_zero]
  intro listed w5 _ hw5
  have HBE := Lib.hid (HRD.out _ hw5).2.2
  clear hw5
  go_wp2_with fail
  go_ret
  exact ⟨rfl, HBE.out⟩
def highI (dr : Int) (h : Th) (t : Int) : Int := h.hi + frI dr h.t t
set_option maxRecDepth 100000 in
set_option maxHeartbeats 4000000 in
theorem dhigh_any (z : Ci) (v : Value) (h : Th) (t : Int) (w : World) (hd : 0 ≤ z.dr ∧ z.dr ≤ 60) (hs : 0 ≤ h.t ∧ h.t ≤ 1048576) (ht : 0 ≤ t ∧ t ≤ 1048576) (hz : -300 ≤ h.hi ∧ h.hi ≤ 300) :
    Calls Tryz.prog 92 #[dlV z v, h.val, .int .i64 t] w fun e w' => e = .returned (.int .i64 (highI z.dr h t)) ∧ Below w.heap.size w w' := by
  obtain ⟨hi', hc, htk, hx, hy, hss, hsl, hlo, hhi, hno⟩ := h
  simp only at hs hz
  have HFA := Lib.hid (fun w' => far_any z v htk t w' hd hs ht)
  have hb2 := (fr_mul hd hs ht).2
  unfold highI
  simp only
  obtain ⟨F, hF⟩ : ∃ m, frI z.dr htk t = m := ⟨_, rfl⟩
  rw [hF] at HFA hb2 ⊢
  have e1 : IntKind.i64.wrap (hhi + F) = hhi + F := IntWalk.i64_in _ (by omega)
  obtain ⟨zi, zx, zy, zf, zt, zl, zh, dr⟩ := z
  clear hd hs ht hz hb2 hF
  have HA := Lib.hid (fun W' => two_cells w #[.int .i64 zi, .int .i64 zx, .int .i64 zy, .int .i64 zf, .int .i64 zt, .int .i64 zl, .int .i64 zh, .int .i64 dr, v] #[.int .i64 hi', .int .i64 hc, .int .i64 htk, .int .i64 hx, .int .i64 hy, .int .i64 hss, .int .i64 hsl, .int .i64 hlo, .int .i64 hhi, .bool hno] 119 128 (W := W'))
  have HB0 := Lib.hid (Below.refl ((w.alloc (.cells #[.int .i64 zi, .int .i64 zx, .int .i64 zy, .int .i64 zf, .int .i64 zt, .int .i64 zl, .int .i64 zh, .int .i64 dr, v] 119)).alloc (.cells #[.int .i64 hi', .int .i64 hc, .int .i64 htk, .int .i64 hx, .int .i64 hy, .int .i64 hss, .int .i64 hsl, .int .i64 hlo, .int .i64 hhi, .bool hno] 128)).heap.size ((w.alloc (.cells #[.int .i64 zi, .int .i64 zx, .int .i64 zy, .int .i64 zf, .int .i64 zt, .int .i64 zl, .int .i64 zh, .int .i64 dr, v] 119)).alloc (.cells #[.int .i64 hi', .int .i64 hc, .int .i64 htk, .int .i64 hx, .int .i64 hy, .int .i64 hss, .int .i64 hsl, .int .i64 hlo, .int .i64 hhi, .bool hno] 128)))
  obtain ⟨Z, hZ⟩ : ∃ Z, (w.alloc (.cells #[.int .i64 zi, .int .i64 zx, .int .i64 zy, .int .i64 zf, .int .i64 zt, .int .i64 zl, .int .i64 zh, .int .i64 dr, v] 119)).alloc (.cells #[.int .i64 hi', .int .i64 hc, .int .i64 htk, .int .i64 hx, .int .i64 hy, .int .i64 hss, .int .i64 hsl, .int .i64 hlo, .int .i64 hhi, .bool hno] 128) = Z := ⟨_, rfl⟩
  rw [hZ] at HA HB0
  have HZ := Lib.hid hZ
  have HRD : Hid (∀ W', Below Z.heap.size Z W' → (W'.cell? ⟨w.heap.size, 0, none⟩ = some (.int .i64 zi) ∧ W'.cell? ⟨w.heap.size, 1, none⟩ = some (.int .i64 zx) ∧ W'.cell? ⟨w.heap.size, 2, none⟩ = some (.int .i64 zy) ∧ W'.cell? ⟨w.heap.size, 3, none⟩ = some (.int .i64 zf) ∧ W'.cell? ⟨w.heap.size, 4, none⟩ = some (.int .i64 zt) ∧ W'.cell? ⟨w.heap.size, 5, none⟩ = some (.int .i64 zl) ∧ W'.cell? ⟨w.heap.size, 6, none⟩ = some (.int .i64 zh) ∧ W'.cell? ⟨w.heap.size, 7, none⟩ = some (.int .i64 dr) ∧ W'.cell? ⟨w.heap.size, 8, none⟩ = some v) ∧ (W'.cell? ⟨w.heap.size + 1, 2, none⟩ = some (.int .i64 htk) ∧ W'.cell? ⟨w.heap.size + 1, 7, none⟩ = some (.int .i64 hlo) ∧ W'.cell? ⟨w.heap.size + 1, 8, none⟩ = some (.int .i64 hhi)) ∧ Below w.heap.size w W') := Lib.hid (fun W' h => by
    obtain ⟨x1, x2, _, x3⟩ := HA.out W' h
    exact ⟨⟨cellH x1 0, cellH x1 1, cellH x1 2, cellH x1 3, cellH x1 4, cellH x1 5, cellH x1 6, cellH x1 7, cellH x1 8⟩, ⟨cellH x2 2, cellH x2 7, cellH x2 8⟩, x3⟩)
  have C1 := Lib.hid (upC (Z := Z) HFA.out)
  clear hZ
  go_enter Tryz.func92, Tryz.ntmps92
  go_wp2_with fail
  rw [HZ.out]
  refine wp_region_turn 10 (fun _ w' => Below Z.heap.size Z w') (by kernel_rfl) (by kernel_rfl) ((Below.refl _ Z).drew) ?_
  simp only [List.take_succ_cons, List.take_zero, List.drop_succ_cons, List.drop_zero]
  iterate 10
    (first
      | (apply turnC_step (by rfl); (intro w' hw'; obtain ⟨⟨q0, q1, q2, q3, q4, q5, q6, q7, q8⟩, ⟨r0, r1, r2⟩, _⟩ := HRD.out w' hw'; go_simp; first | with_reducible exact ⟨hw', congrArg (Value.int .i64) e1⟩ | with_reducible exact ⟨hw', rfl⟩ | with_reducible exact rfl))
      | (apply turnC_step (by rfl); (intro w' hw'; go_simp; with_reducible exact C1.out w' hw')))
    simp only [Act.put, List.setIfInBounds_toArray, List.set_cons_succ, List.set_cons_zero]
  intro listed w5 _ hw5
  have HBE := Lib.hid (HRD.out _ hw5).2.2
  clear hw5
  go_wp2_with fail
  go_ret
  exact ⟨rfl, HBE.out⟩
end Go.Proofs.YtebdboacmeafaaaGreat
/- Package circle: clash. -/
set_option linter.unusedVariables false
set_option linter.unusedSimpArgs false
namespace Go.Proofs.YtebdboacmeafaaaGreat
open Go Go.RowKit

/-- Two things contradict each other. -/
def clB (dr : Int) (a b : Th) : Bool := !a.no && !b.no && (decide (frI dr a.t b.t < a.lo - b.hi) || decide (frI dr a.t b.t < b.lo - a.hi))
/-- A thing's numbers are in their bounds. -/
def Th.ok (h : Th) : Prop := (0 ≤ h.t ∧ h.t ≤ 1048576) ∧ (-300 ≤ h.lo ∧ h.lo ≤ 300) ∧ -300 ≤ h.hi ∧ h.hi ≤ 300
set_option maxRecDepth 100000 in
set_option maxHeartbeats 4000000 in
theorem clash_any (z : Ci) (v : Value) (g h : Th) (w : World) (hd : 0 ≤ z.dr ∧ z.dr ≤ 60) (hg : g.ok) (hh : h.ok) :
    Calls Tryz.prog 120 #[dlV z v, g.val, h.val] w fun e w' => e = .returned (.bool (clB z.dr g h)) ∧ Below w.heap.size w w' := by
  have HFA := Lib.hid (fun w' => far_any z v g.t h.t w' hd hg.1 hh.1)
  have hb2 := (fr_mul hd hg.1 hh.1).2
  have HCL : Hid (clB z.dr g h = (!g.no && !h.no && (decide (frI z.dr g.t h.t < g.lo - h.hi) || decide (frI z.dr g.t h.t < h.lo - g.hi)))) := Lib.hid rfl
  obtain ⟨F, hF⟩ : ∃ m, frI z.dr g.t h.t = m := ⟨_, rfl⟩
  obtain ⟨R, hR⟩ : ∃ m, clB z.dr g h = m := ⟨_, rfl⟩
  rw [hF] at HFA hb2 HCL
  rw [hR] at HCL ⊢
  obtain ⟨_, hg2, hg3⟩ := hg
  obtain ⟨_, hh2, hh3⟩ := hh
  obtain ⟨g0, g1, g2, g3, g4, g5, g6, g7, g8, g9⟩ := g
  obtain ⟨h0, h1, h2, h3, h4, h5, h6, h7, h8, h9⟩ := h
  obtain ⟨zi, zx, zy, zf, zt, zl, zh, dr⟩ := z
  simp only at hg2 hg3 hh2 hh3 HCL HFA
  have e1 : IntKind.i64.wrap (g7 - h8) = g7 - h8 := IntWalk.i64_in _ (by omega)
  have e2 : IntKind.i64.wrap (h7 - g8) = h7 - g8 := IntWalk.i64_in _ (by omega)
  clear hg2 hg3 hh2 hh3 hb2 hF hR hd
  have HA := Lib.hid (fun W' => cells3 w #[.int .i64 zi, .int .i64 zx, .int .i64 zy, .int .i64 zf, .int .i64 zt, .int .i64 zl, .int .i64 zh, .int .i64 dr, v] #[.int .i64 g0, .int .i64 g1, .int .i64 g2, .int .i64 g3, .int .i64 g4, .int .i64 g5, .int .i64 g6, .int .i64 g7, .int .i64 g8, .bool g9] #[.int .i64 h0, .int .i64 h1, .int .i64 h2, .int .i64 h3, .int .i64 h4, .int .i64 h5, .int .i64 h6, .int .i64 h7, .int .i64 h8, .bool h9] 119 128 128 (W := W'))
  have HB0 := Lib.hid (Below.refl (((w.alloc (.cells #[.int .i64 zi, .int .i64 zx, .int .i64 zy, .int .i64 zf, .int .i64 zt, .int .i64 zl, .int .i64 zh, .int .i64 dr, v] 119)).alloc (.cells #[.int .i64 g0, .int .i64 g1, .int .i64 g2, .int .i64 g3, .int .i64 g4, .int .i64 g5, .int .i64 g6, .int .i64 g7, .int .i64 g8, .bool g9] 128)).alloc (.cells #[.int .i64 h0, .int .i64 h1, .int .i64 h2, .int .i64 h3, .int .i64 h4, .int .i64 h5, .int .i64 h6, .int .i64 h7, .int .i64 h8, .bool h9] 128)).heap.size (((w.alloc (.cells #[.int .i64 zi, .int .i64 zx, .int .i64 zy, .int .i64 zf, .int .i64 zt, .int .i64 zl, .int .i64 zh, .int .i64 dr, v] 119)).alloc (.cells #[.int .i64 g0, .int .i64 g1, .int .i64 g2, .int .i64 g3, .int .i64 g4, .int .i64 g5, .int .i64 g6, .int .i64 g7, .int .i64 g8, .bool g9] 128)).alloc (.cells #[.int .i64 h0, .int .i64 h1, .int .i64 h2, .int .i64 h3, .int .i64 h4, .int .i64 h5, .int .i64 h6, .int .i64 h7, .int .i64 h8, .bool h9] 128)))
  obtain ⟨Z, hZ⟩ : ∃ Z, ((w.alloc (.cells #[.int .i64 zi, .int .i64 zx, .int .i64 zy, .int .i64 zf, .int .i64 zt, .int .i64 zl, .int .i64 zh, .int .i64 dr, v] 119)).alloc (.cells #[.int .i64 g0, .int .i64 g1, .int .i64 g2, .int .i64 g3, .int .i64 g4, .int .i64 g5, .int .i64 g6, .int .i64 g7, .int .i64 g8, .bool g9] 128)).alloc (.cells #[.int .i64 h0, .int .i64 h1, .int .i64 h2, .int .i64 h3, .int .i64 h4, .int .i64 h5, .int .i64 h6, .int .i64 h7, .int .i64 h8, .bool h9] 128) = Z := ⟨_, rfl⟩
  rw [hZ] at HA HB0
  have HZ := Lib.hid hZ
  clear hZ
  go_enter Tryz.func120, Tryz.ntmps120
  go_wp2_with fail
  rw [HZ.out]
  refine (HFA.out Z).mono ?_
  rintro e w1 ⟨rfl, hb⟩
  obtain ⟨_, y1, y2, _, yb⟩ := HA.out w1 hb
  have HBE := Lib.hid yb
  have a7 := cellH y1 7
  have a8 := cellH y1 8
  have a9 := cellH y1 9
  have b7 := cellH y2 7
  have b8 := cellH y2 8
  have b9 := cellH y2 9
  simp only [List.getElem?_toArray, List.getElem?_cons_zero, List.getElem?_cons_succ] at a7 a8 a9 b7 b8 b9
  clear hb y1 y2 yb
  cases g9
  case true =>
    have HN : Hid (R = false) := Lib.hid (by rw [HCL.out]; rfl)
    go_wp2_with fail
    go_ret
    exact ⟨by rw [HN.out]; rfl, HBE.out⟩
  cases h9
  case true =>
    have HN : Hid (R = false) := Lib.hid (by rw [HCL.out]; rfl)
    go_wp2_with fail
    go_ret
    exact ⟨by rw [HN.out]; rfl, HBE.out⟩
  by_cases c1 : F < g7 - h8
  · have HN : Hid (R = true) := Lib.hid (by rw [HCL.out, decide_eq_true c1]; rfl)
    go_wp2_with fail
    go_ret
    exact ⟨by rw [HN.out]; rfl, HBE.out⟩
  · have d1 : decide (F < g7 - h8) = false := decide_eq_false c1
    by_cases c2 : F < h7 - g8
    · have HN : Hid (R = true) := Lib.hid (by rw [HCL.out, decide_eq_true c2]; simp)
      go_wp2_with fail
      go_ret
      exact ⟨by rw [HN.out]; rfl, HBE.out⟩
    · have d2 : decide (F < h7 - g8) = false := decide_eq_false c2
      have HN : Hid (R = false) := Lib.hid (by rw [HCL.out, d1, d2]; rfl)
      go_wp2_with fail
      go_ret
      exact ⟨by rw [HN.out]; rfl, HBE.out⟩
end Go.Proofs.YtebdboacmeafaaaGreat
