/- ordered of package ridge. -/
import Derived.Test.YtnacgogcbbpjmaaHB8
import Derived.Sort.Grow
import Derived.Sort.Walk0
import Derived.Shelf.SlSortCmp.WholeK
import Derived.Shelf.Lay
import Derived.Ground.SlsfProg
import Derived.Shelf.SlSortCmp.NoneTotal
import Derived.Shelf.Slices.Clone
set_option linter.unusedVariables false
set_option linter.unusedSimpArgs false
namespace Go.Proofs.Ytnacgogcbbpjmaa
open Go Go.RowKit Go.Shelf
open Go.Proofs

instance : Inhabited Tw := ⟨.nil⟩
def encT (t : Tw) : List Value := [.int .i64 t.id, .int .i64 t.x, .int .i64 t.y, .int .i64 t.h]
def fldT (t : Tw) : Nat → Value
  | 0 => .int .i64 t.id
  | 1 => .int .i64 t.x
  | 2 => .int .i64 t.y
  | _ => .int .i64 t.h
theorem encT_at (t : Tw) (j : Nat) (h : j < 4) : (encT t)[j]? = some (fldT t j) := by
  rcases (by omega : j = 0 ∨ j = 1 ∨ j = 2 ∨ j = 3) with rfl | rfl | rfl | rfl <;> rfl
theorem flatT_len (l : List Tw) : (l.flatMap encT).length = l.length * 4 := by
  induction l with
  | nil => rfl
  | cons t l ih => rw [List.flatMap_cons, List.length_append, ih, List.length_cons]; show 4 + _ = _; omega
theorem flatT_get : ∀ (l : List Tw) (j : Nat), j < l.length * 4 → (l.flatMap encT)[j]? = some (fldT (l.getD (j / 4) .nil) (j % 4))
  | [], j, h => by simp at h
  | t :: l, j, h => by
    rw [List.flatMap_cons]
    by_cases hj : j < 4
    · rw [List.getElem?_append_left (by show j < 4; omega), encT_at _ _ hj, show j / 4 = 0 by omega, show j % 4 = j by omega]; rfl
    · rw [List.getElem?_append_right (by show 4 ≤ j; omega)]
      show (l.flatMap encT)[j - 4]? = _
      rw [flatT_get l (j - 4) (by simp at h; omega), show j / 4 = (j - 4) / 4 + 1 by omega, show j % 4 = (j - 4) % 4 by omega]
      rfl
theorem TwRow.raw {w : World} {b off n cap : Nat} {l : List Tw} (h : TwRow w (.slice (some ⟨b, off, none⟩) n cap) l) : n = l.length ∧ ∀ j, j < l.length * 4 → w.cell? ⟨b, off + j, none⟩ = some (fldT (l.getD (j / 4) .nil) (j % 4)) := by
  rcases h with ⟨_, _, hv, rfl⟩ | ⟨b', off', c, hv, hp, h1, hc⟩
  · cases hv; exact ⟨rfl, fun j hj => by simp at hj⟩
  · cases hv
    refine ⟨rfl, fun j hj => ?_⟩
    obtain ⟨c0, c1, c2, c3⟩ := hc (j / 4) (by omega)
    rcases (by omega : j % 4 = 0 ∨ j % 4 = 1 ∨ j % 4 = 2 ∨ j % 4 = 3) with e | e | e | e
    · rw [e, show off + j = off + j / 4 * 4 by omega]; exact c0
    · rw [e, show off + j = off + j / 4 * 4 + 1 by omega]; exact c1
    · rw [e, show off + j = off + j / 4 * 4 + 2 by omega]; exact c2
    · rw [e, show off + j = off + j / 4 * 4 + 3 by omega]; exact c3
theorem TwRow.of_raw {w : World} {b off cap : Nat} {l : List Tw} (hp : l.length ≤ cap) (h1 : b < w.heap.size) (h : ∀ j, j < l.length * 4 → w.cell? ⟨b, off + j, none⟩ = some (fldT (l.getD (j / 4) .nil) (j % 4))) : TwRow w (.slice (some ⟨b, off, none⟩) l.length cap) l := by
  refine .inr ⟨b, off, cap, rfl, hp, h1, fun i hi => ?_⟩
  have c0 := h (i * 4) (by omega)
  have c1 := h (i * 4 + 1) (by omega)
  have c2 := h (i * 4 + 2) (by omega)
  have c3 := h (i * 4 + 3) (by omega)
  rw [show i * 4 / 4 = i by omega, show i * 4 % 4 = 0 by omega] at c0
  rw [show (i * 4 + 1) / 4 = i by omega, show (i * 4 + 1) % 4 = 1 by omega] at c1
  rw [show (i * 4 + 2) / 4 = i by omega, show (i * 4 + 2) % 4 = 2 by omega] at c2
  rw [show (i * 4 + 3) / 4 = i by omega, show (i * 4 + 3) % 4 = 3 by omega] at c3
  exact ⟨c0, by rw [Nat.add_assoc]; exact c1, by rw [Nat.add_assoc]; exact c2, by rw [Nat.add_assoc]; exact c3⟩
theorem info_tw4 : (Try.prog.info? 48).map (fun i => (i.zero, i.size, i.bytes)) = some (some (.agg #[.int .i64 0, .int .i64 0, .int .i64 0, .int .i64 0]), 4, 32) := by kernel_rfl
theorem taddr_add (b off j : Nat) : (⟨b, off, none⟩ : Addr).add j = ⟨b, off + j, none⟩ := by unfold Addr.add; split <;> simp_all

set_option maxRecDepth 100000 in
set_option maxHeartbeats 2000000 in
theorem tclone_any (p : Addr) (n c : Nat) (l : List Tw) (w : World) (hn : n = l.length) (hl : n ≤ 60) (hc : ∀ j, j < n * 4 → w.cell? (p.add j) = some (fldT (l.getD (j / 4) .nil) (j % 4))) :
    Calls Try.prog 68 #[.slice (some p) n c] w fun e w' => ∃ v', e = .returned v' ∧ w'.ownsRow w.heap.size 48 4 v' n (l.flatMap encT) ∧ Below w.heap.size w w' := by
  obtain ⟨i0, hi, hz0, hz1, hz2⟩ := info_parts info_tw4
  have hq : ∀ (w : World) (a : Option Addr) (n c n' c' : Nat), (binOp .eql 25 (.slice a n c) (.slice none n' c')).run Try.prog w = .ok (.bool a.isNone) w := fun w a n c n' c' => Lib.run_eql_slice_nil w _ _ a n c n' c' Try.underlying25
  have HC := Lib.hid hc
  have HL := Lib.hid hn
  clear hc hn
  go_enter Try.func68, Try.ntmps68
  go_wp2_with (at_builtin; refine wpList_append_own _ rfl _ _ 25 rfl w.heap.size 48 i0 (.agg #[.int .i64 0, .int .i64 0, .int .i64 0, .int .i64 0]) 4 32 Try.underlying25 hi hz0 hz1 hz2 rfl (by decide) _ _ _ rfl (World.ownsRow_made w #[] 0 (Nat.le_refl _) (Nat.zero_le _) rfl) p n c (l.flatMap encT) rfl ?qc1 ?qc2 ?qc3 ?qc4 ?qc5 ?qc6 ?_)
  case qc1 => rw [flatT_len, HL.out]
  case qc2 =>
    intro j u hj
    have hjn : j < l.length * 4 := by
      have := (List.getElem?_eq_some_iff.1 hj).1
      rwa [flatT_len] at this
    rw [flatT_get _ _ hjn] at hj
    refine Lib.cell?_alloc_some _ ?_
    rw [HC.out j (by rw [HL.out]; exact hjn)]
    exact hj
  case qc3 =>
    intro u hu
    obtain ⟨j, he⟩ := List.getElem?_of_mem hu
    have hj := (List.getElem?_eq_some_iff.1 he).1
    rw [flatT_len] at hj
    rw [flatT_get _ _ hj] at he
    cases he
    rcases (by omega : j % 4 = 0 ∨ j % 4 = 1 ∨ j % 4 = 2 ∨ j % 4 = 3) with e | e | e | e <;> rw [e] <;> rfl
  case qc4 => unfold maxLen; omega
  case qc5 => omega
  case qc6 => simp
  intro v' w1 hown hgrow hnil
  go_wp2
  go_ret
  exact ⟨v', rfl, by simpa using hown, ((Below.refl _ w).alloc (Nat.le_refl _) _).grown hgrow (by simp) (by intro k hk; simp [Value.ownBlock] at hk; omega)⟩
theorem tclone_nil (n c : Nat) (w : World) :
    Calls Try.prog 68 #[.slice none n c] w fun e w' => e = .returned (.slice none 0 0) ∧ w' = w := by
  have hq : ∀ (w : World) (a : Option Addr) (n c n' c' : Nat), (binOp .eql 25 (.slice a n c) (.slice none n' c')).run Try.prog w = .ok (.bool a.isNone) w := fun w a n c n' c' => Lib.run_eql_slice_nil w _ _ a n c n' c' Try.underlying25
  go_enter Try.func68, Try.ntmps68
  go_wp2
  go_ret
  exact ⟨rfl, rfl⟩

/-! The order. -/
theorem inaN_any (x : Int) (w : World) : Calls Try.prog 87 #[.int .i64 x] w fun e w' => e = .returned (.bool false) ∧ w = w' := by
  go_enter Try.func87, Try.ntmps87
  go_wp2_with fail
  go_ret
  exact ⟨rfl, rfl⟩
def cmpJ (x y : Int) : Int := if x < y then -1 else if y < x then 1 else 0
theorem cmpJ_any (x y : Int) (w : World) : Calls Try.prog 71 #[.int .i64 x, .int .i64 y] w fun e w' => e = .returned (.int .i64 (cmpJ x y)) ∧ w = w' := by
  by_cases h1 : x < y
  · have HC : Hid (cmpJ x y = -1) := Lib.hid (by unfold cmpJ; rw [if_pos h1])
    go_enter Try.func71, Try.ntmps71
    go_wp2_with (go_at_call 87; refine (inaN_any _ _).mono ?_; rintro e w' ⟨rfl, rfl⟩)
    go_ret
    exact ⟨ret_int' HC.out.symm, rfl⟩
  · by_cases h2 : y < x
    · have HC : Hid (cmpJ x y = 1) := Lib.hid (by unfold cmpJ; rw [if_neg h1, if_pos h2])
      go_enter Try.func71, Try.ntmps71
      go_wp2_with (go_at_call 87; refine (inaN_any _ _).mono ?_; rintro e w' ⟨rfl, rfl⟩)
      go_ret
      exact ⟨ret_int' HC.out.symm, rfl⟩
    · have HC : Hid (cmpJ x y = 0) := Lib.hid (by unfold cmpJ; rw [if_neg h1, if_neg h2])
      go_enter Try.func71, Try.ntmps71
      go_wp2_with (go_at_call 87; refine (inaN_any _ _).mono ?_; rintro e w' ⟨rfl, rfl⟩)
      go_ret
      exact ⟨ret_int' HC.out.symm, rfl⟩
def cmpT (s t : Tw) : Int := cmpJ s.id t.id
theorem grow_two (w : World) (a b : Obj) : ((w.alloc a).alloc b) = Go.Sort.grow (w.drewN 0) #[a, b] := by
  simp only [Go.Sort.alloc_eq_grow, Go.Sort.grow_grow]
  rfl
theorem cmpT_any (s t : Tw) (w : World) :
    Calls Try.prog 70 #[.agg (encT s).toArray, .agg (encT t).toArray] w fun e w' => e = .returned (.int .i64 (cmpT s t)) ∧ ∃ m os, w' = Go.Sort.grow (w.drewN m) os := by
  obtain ⟨a, x, y, h⟩ := s
  obtain ⟨b, x2, y2, h2⟩ := t
  show Calls Try.prog 70 #[.agg #[.int .i64 a, .int .i64 x, .int .i64 y, .int .i64 h], .agg #[.int .i64 b, .int .i64 x2, .int .i64 y2, .int .i64 h2]] w _
  have C1 := Lib.hid (fun w => cmpJ_any a b w)
  show Calls _ _ _ _ fun e w' => e = .returned (.int .i64 (cmpJ a b)) ∧ _
  generalize cmpJ a b = r at C1 ⊢
  go_enter Try.func70, Try.ntmps70
  go_wp2_with (go_at_call 71; refine (C1.out _).mono ?_; rintro e w' ⟨rfl, rfl⟩)
  go_ret
  exact ⟨rfl, 0, _, grow_two w _ _⟩
theorem ltOf_cmpT (s t : Tw) : ltOf cmpT s t = true ↔ s.id < t.id := by
  unfold ltOf cmpT cmpJ
  rw [decide_eq_true_eq]
  split
  · simp_all
  · split <;> omega
theorem swoT : Go.Sort.SWO (ltOf cmpT) where
  irrefl x := by
    cases h : ltOf cmpT x x with
    | false => rfl
    | true => have := (ltOf_cmpT x x).1 h; omega
  trans x y z h1 h2 := (ltOf_cmpT x z).2 (by have := (ltOf_cmpT x y).1 h1; have := (ltOf_cmpT y z).1 h2; omega)
  ntrans x y z h1 h2 := by
    cases h : ltOf cmpT x z with
    | false => rfl
    | true =>
      have h3 := (ltOf_cmpT x z).1 h
      have n1 : ¬ x.id < y.id := fun k => by rw [(ltOf_cmpT x y).2 k] at h1; cases h1
      have n2 : ¬ y.id < z.id := fun k => by rw [(ltOf_cmpT y z).2 k] at h2; cases h2
      omega
theorem cmpLaysT (blk off size : Nat) (w : World) : CmpLays Try.prog 70 #[] encT 4 cmpT blk off size w :=
  fun _ _ _ _ x y => cmpT_any x y _
shelf_lay_g SlLaysF0.n6 Slsf 6 at Try 69 as sortTw
end Go.Proofs.Ytnacgogcbbpjmaa

/-! The sort of towers. -/
namespace Go.Proofs.Ytnacgogcbbpjmaa
open Go Go.RowKit Go.Shelf
open Go.Proofs
theorem grown_sortT (w : World) (g n : Nat) (d : Array Tw) (os : Array Obj) : w.grownBy (sortWorldK encT 4 w g 0 n d os) (some g) := by
  refine ⟨rfl, rfl, rfl, ?_, fun k hk hne => ?_⟩
  · show w.heap.size ≤ ((w.heap.modify g _) ++ os).size
    simp
  · show ((w.heap.modify g _) ++ os)[k]? = w.heap[k]?
    rw [Array.getElem?_append_left (by simpa using hk), Array.getElem?_modify, if_neg (fun e => hne (by rw [e]))]
theorem encT_flat (l : List Tw) (t : Nat) (h : t < l.length * 4) : (Go.Sort.flatK encT 4 l.toArray)[t]! = fldT (l.getD (t / 4) .nil) (t % 4) := by
  rw [Go.Sort.get_flatK encT 4 _ _ (by simpa using h)]
  have e1 : l.toArray[t / 4]! = l.getD (t / 4) .nil := by
    rw [List.getD_eq_getElem?_getD]; simp [show t / 4 < l.length by omega]
  rw [e1, List.getElem!_eq_getElem?_getD, encT_at _ _ (by omega)]; rfl
theorem holdsT {w : World} {base g cap : Nat} {l : List Tw} (h : w.ownsRow base 48 4 (.slice (some ⟨g, 0, none⟩) l.length cap) l.length (l.flatMap encT)) : Go.Sort.HoldsK encT 4 w g 0 l.toArray ∧ g < w.heap.size ∧ base ≤ g ∧ l.length ≤ cap := by
  rcases h.2 with ⟨h0, _⟩ | ⟨g', cap', cur, hv, hg, hb, hn, hm, hs, ht⟩
  · cases h0
  · cases hv
    refine ⟨fun j hj => ?_, (Array.getElem?_eq_some_iff.1 hb).1, hg, hn⟩
    rw [Go.Sort.size_flatK] at hj
    have hj' : j < l.length * 4 := by simpa using hj
    refine ⟨?_, freeH hb _⟩
    rw [Nat.zero_add, cellH hb]
    have hc : cur[j]? = (l.flatMap encT)[j]? := by
      rw [← ht, List.getElem?_take_of_lt hj', Array.getElem?_toList]
    rw [hc, flatT_get _ _ hj']
    show _ = some ((Go.Sort.flatK encT 4 l.toArray)[j]!)
    rw [encT_flat l j hj']
theorem tsort_some {base g cap : Nat} {l : List Tw} (hk : (l.map Tw.id).Nodup) (hl : l.length ≤ 1000000) (w : World) (h : w.ownsRow base 48 4 (.slice (some ⟨g, 0, none⟩) l.length cap) l.length (l.flatMap encT)) :
    Calls Try.prog 69 #[.slice (some ⟨g, 0, none⟩) l.length cap, .func (.func 70) #[] #[]] w fun e w' => e = .returned (.tuple #[]) ∧
      ∃ L, TwRow w' (.slice (some ⟨g, 0, none⟩) l.length cap) L ∧ L.Pairwise (fun s t => s.id < t.id) ∧ L.Perm l ∧ w.grownBy w' (some g) := by
  obtain ⟨hH, hg, hb, hc⟩ := holdsT h
  have eg : ∀ args w, (callFunc 70 args).run Try.prog w = .ok (.enter 70 args) w := enters_of Try.func70 (by kernel_rfl) rfl
  have hcon := AnyQ.slices_SortFunc sortTw 4 (fun w => by kernel_rfl) (fun w => by kernel_rfl) encT (fun _ => rfl) (fun x v hv => by simp [encT] at hv; rcases hv with rfl | rfl | rfl | rfl <;> rfl) cmpT swoT 70 #[] g 0 cap l.toArray w eg (cmpLaysT g 0 l.toArray.size w) hH hg (by simp; omega)
  change Calls Try.prog 69 _ _ _ at hcon
  rw [show l.toArray.size = l.length by simp] at hcon
  refine hcon.mono ?_
  rintro e w' ⟨rfl, d', n, os, hp, hs, rfl⟩
  have hsz : d'.size = l.length := by have := hp.1; simpa using this
  have hperm : d'.toList.Perm l := by
    have := hp.2.2
    rw [show d'.extract 0 l.length = d' by rw [← hsz]; simp] at this
    simpa using this
  have hH' := holdsK_sortWorldK_c encT 4 w g 0 l.toArray d' n os hH hg (by simpa using hsz)
  have hlen : d'.toList.length = l.length := by simpa using hsz
  refine ⟨rfl, d'.toList, ?_, ?_, hperm, grown_sortT w g n d' os⟩
  · rw [← hlen]
    refine TwRow.of_raw (by omega) (by have := (grown_sortT w g n d' os).size; omega) fun j hj => ?_
    have e1 := (hH' j (by rw [Go.Sort.size_flatK]; simp at hj; omega)).1
    have f1 := encT_flat d'.toList j hj
    rw [Array.toArray_toList] at f1
    exact e1.trans (congrArg some f1)
  · rw [List.pairwise_iff_getElem]
    intro i j hi hj hij
    have h1 := hs i j (Nat.zero_le _) hij (by simp at hj; omega)
    have hn : (d'.toList.map Tw.id).Nodup := (hperm.map Tw.id).nodup_iff.2 hk
    have hne : d'.toList[i].id ≠ d'.toList[j].id := fun e => by
      have := (List.pairwise_iff_getElem.1 hn) i j (by simpa using hi) (by simpa using hj) hij
      simp only [List.getElem_map] at this
      exact this e
    have e1 : d'[i]! = d'.toList[i] := by simp at hi; simp [hi]
    have e2 : d'[j]! = d'.toList[j] := by simp at hj; simp [hj]
    rw [e1, e2] at h1
    rcases Int.lt_trichotomy d'.toList[i].id d'.toList[j].id with k | k | k
    · exact k
    · exact absurd k hne
    · rw [(ltOf_cmpT _ _).2 k] at h1; cases h1
theorem tsort_none (p : Option Addr) (cap : Nat) (fv : Value) (w : World) :
    Calls Try.prog 69 #[.slice p 0 cap, fv] w fun e w' => e = .returned (.tuple #[]) ∧ w' = w :=
  AnyF.slices_SortFunc_none sortTw p cap fv w
/-- A list in the order of its numbers. -/
def Ord (L l : List Tw) : Prop := L.Perm l ∧ L.Pairwise fun s t => s.id < t.id
set_option maxRecDepth 100000 in
theorem ordered_any (v : Value) (l : List Tw) (w : World) (hv : TwRow w v l) (hl : l.length ≤ 12) (hk : (l.map Tw.id).Nodup) :
    Calls Try.prog 44 #[v] w fun e w' => ∃ v' L, e = .returned v' ∧ TwRow w' v' L ∧ Ord L l ∧ Below w.heap.size w w' := by
  have key : Calls Try.prog 68 #[v] w fun e w' => ∃ v', e = .returned v' ∧ w'.ownsRow w.heap.size 48 4 v' l.length (l.flatMap encT) ∧ Below w.heap.size w w' := by
    rcases hv with ⟨a, cap, rfl, rfl⟩ | ⟨b, off, cap, rfl, hp, hb, hc⟩
    · cases a with
      | none =>
        refine (tclone_nil 0 cap w).mono ?_
        rintro e w' ⟨rfl, rfl⟩
        exact ⟨_, rfl, ⟨rfl, .inl ⟨rfl, rfl⟩⟩, Below.refl _ _⟩
      | some p => exact tclone_any p 0 cap [] w rfl (by omega) (fun j hj => by simp at hj)
    · refine tclone_any ⟨b, off, none⟩ l.length cap l w rfl (by omega) fun j hj => ?_
      rw [taddr_add]
      exact (TwRow.raw (.inr ⟨b, off, cap, rfl, hp, hb, hc⟩)).2 j hj
  have HK := Lib.hid key
  have HN := Lib.hid hk
  clear key hk hv
  go_enter Try.func44, Try.ntmps44
  go_wp2_with fail
  refine HK.out.mono ?_
  rintro e w1 ⟨v1, rfl, hown, hb1⟩
  rcases hown.2 with ⟨h0, hz⟩ | ⟨g, cap, cur, hv1, hg, hbk, hn, hm, hs, ht⟩
  · have hlz : l = [] := List.eq_nil_of_length_eq_zero hz
    have HB := Lib.hid hb1
    subst h0
    go_wp2_with fail
    refine (tsort_none none 0 _ w1).mono ?_
    rintro e w2 ⟨rfl, rfl⟩
    go_wp2_with fail
    go_ret
    exact ⟨_, [], rfl, .inl ⟨_, _, rfl, rfl⟩, by subst hlz; exact ⟨.refl _, .nil⟩, HB.out⟩
  · subst hv1
    have HS := Lib.hid (tsort_some HN.out (by omega) w1 hown)
    have HB := Lib.hid hb1
    have HG := Lib.hid hg
    clear hown hbk hn hm hs ht hb1 hg
    go_wp2_with fail
    refine HS.out.mono ?_
    rintro e w2 ⟨rfl, L, hL, hpw, hpm, hgr⟩
    have HF := Lib.hid (⟨hL, ⟨hpm, hpw⟩, HB.out.grown hgr HB.out.size (by intro k hk; cases hk; exact HG.out)⟩ : TwRow w2 (.slice (some ⟨g, 0, none⟩) l.length cap) L ∧ Ord L l ∧ Below w.heap.size w w2)
    clear hL hpw hpm hgr
    go_wp2_with fail
    go_ret
    exact ⟨_, L, rfl, HF.out⟩
end Go.Proofs.Ytnacgogcbbpjmaa
