/- Both lists of readings are one. Plain. -/
import Derived.Test.YtjbdmlpadoiicaaGreatDoorZ0
import Derived.Test.YtjbdmlpadoiicaaGreatDoorZ1
import Derived.Test.YtjbdmlpadoiicaaGreatDoorS1
import Derived.Test.YtjbdmlpadoiicaaGreatDoorO2
import Derived.Test.YtjbdmlpadoiicaaGreatDoorU4
import Derived.Test.YtjbdmlpadoiicaaGreatDoorT0
import Derived.Sort.Grow
import Derived.Shelf.SlSortCmp.WholeK
import Derived.Shelf.Lay
import Derived.Ground.SlsfProg
import Derived.Shelf.SlSortCmp.NoneTotal
set_option linter.unusedVariables false
set_option linter.unusedSimpArgs false
namespace Go.Proofs.YtjbdmlpadoiicaaGreatDoor

/-- The order of readings: by faults, then by words. -/
def ltP (p q : List UInt8 × Int) : Prop := p.2 < q.2 ∨ p.2 = q.2 ∧ p.1 < q.1
theorem ltP_irr (p : List UInt8 × Int) : ¬ ltP p p := fun h => by
  rcases h with h | h
  · omega
  · exact lt_irr _ h.2
theorem ltP_trans {p q s : List UInt8 × Int} (h : ltP p q) (k : ltP q s) : ltP p s := by
  rcases h with h | h
  · rcases k with k | k
    · exact .inl (by omega)
    · exact .inl (by omega)
  · rcases k with k | k
    · exact .inl (by omega)
    · exact .inr ⟨by omega, List.lt_trans h.2 k.2⟩
theorem ltP_ext : ∀ {a b : List (List UInt8 × Int)}, a.Pairwise ltP → b.Pairwise ltP → (∀ x, x ∈ a ↔ x ∈ b) → a = b
  | [], [], _, _, _ => rfl
  | [], y :: b, _, _, h => absurd ((h y).2 (by simp)) (by simp)
  | x :: a, [], _, _, h => absurd ((h x).1 (by simp)) (by simp)
  | x :: a, y :: b, ha, hb, h => by
    have hx := List.pairwise_cons.1 ha
    have hy := List.pairwise_cons.1 hb
    have e : x = y := by
      rcases List.mem_cons.1 ((h x).1 (by simp)) with h1 | h1
      · exact h1
      · rcases List.mem_cons.1 ((h y).2 (by simp)) with h2 | h2
        · exact h2.symm
        · exact absurd (ltP_trans (hx.1 y h2) (hy.1 x h1)) (ltP_irr x)
    subst e
    refine congrArg (x :: ·) (ltP_ext hx.2 hy.2 fun z => ⟨fun hz => ?_, fun hz => ?_⟩)
    · rcases List.mem_cons.1 ((h z).1 (List.mem_cons_of_mem _ hz)) with e | e
      · subst e; exact absurd (hx.1 z hz) (ltP_irr z)
      · exact e
    · rcases List.mem_cons.1 ((h z).2 (List.mem_cons_of_mem _ hz)) with e | e
      · subst e; exact absurd (hy.1 z hz) (ltP_irr z)
      · exact e
theorem mem_refK {r : List UInt8} {n : Nat} {ys : List (List UInt8)} {x : List UInt8} {k : Int} : (x, k) ∈ refK r n ys ↔ x ∈ ys ∧ eT (signalL x) r 0 0 = n ∧ k = n := by
  unfold refK
  simp only [List.mem_map, List.mem_filter, decide_eq_true_eq, Prod.mk.injEq]
  exact ⟨fun ⟨y, ⟨h1, h2⟩, h3, h4⟩ => by subst h3; exact ⟨h1, h2, h4.symm⟩, fun ⟨h1, h2, h3⟩ => ⟨x, ⟨h1, h2⟩, rfl, h3.symm⟩⟩
theorem refL_strict {r : List UInt8} {ys : List (List UInt8)} (h : Strict ys) (n : Nat) : (refL r ys n).Pairwise ltP := by
  unfold refL
  rw [List.pairwise_flatMap]
  refine ⟨fun j _ => ?_, ?_⟩
  · unfold refK
    rw [List.pairwise_map]
    exact (List.Pairwise.filter _ h).imp fun h => .inr ⟨rfl, h⟩
  · refine (List.pairwise_lt_range (n := n)).imp fun {i j} hij => ?_
    rintro ⟨x, k⟩ hx ⟨y, l⟩ hy
    have h1 := (mem_refK.1 hx).2.2
    have h2 := (mem_refK.1 hy).2.2
    exact .inl (by show k < l; omega)
theorem signal_all {x : List UInt8} (h : wordB x = true) : (signalL x).all flashB = true := by
  have := signal_flash h
  unfold flashE at this
  split at this
  · cases this
  · split at this
    · assumption
    · cases this
/-- The list of the reference holds what the search finds. -/
theorem mem_ref {m : Nat} (hm : m ≤ 2) {r : List UInt8} {ys : List (List UInt8)} (hy : ∀ y, y ∈ ys ↔ wordB y = true ∧ Und r m (signalL y)) (p : List UInt8 × Int) : p ∈ refL r ys (m + 1) ↔ p ∈ foundL m r 10 := by
  obtain ⟨x, k⟩ := p
  rw [mem_found]
  simp only [refL, List.mem_flatMap, List.mem_range, mem_refK, hy]
  constructor
  · rintro ⟨n, hn, ⟨h1, h2⟩, h3, h4⟩
    exact ⟨h1, by omega, by omega⟩
  · rintro ⟨h1, h2, h3⟩
    have h0 := (eT_bd (s := signalL x) (r := r) _ 0 0 rfl (Nat.zero_le _)).1
    have hc : Can (m : Int) (signalL x) r := (can_eT (by omega)).2 h2
    exact ⟨(eT (signalL x) r 0 0).toNat, by omega, ⟨h1, hc.und (signal_all h1)⟩, by omega, by omega⟩
theorem nodup_len : ∀ {a b : List (List UInt8)}, a.Nodup → (∀ x ∈ a, x ∈ b) → a.length ≤ b.length
  | [], b, _, _ => Nat.zero_le _
  | x :: a, b, hn, h => by
    have hn' := List.nodup_cons.1 hn
    have hx : x ∈ b := h x List.mem_cons_self
    have := nodup_len (a := a) (b := b.erase x) hn'.2 (fun y hy => (List.mem_erase_of_ne (fun e => hn'.1 (by rw [← e]; exact hy))).2 (h y (List.mem_cons_of_mem _ hy)))
    rw [List.length_erase_of_mem hx] at this
    have hb : 0 < b.length := List.length_pos_of_mem hx
    rw [List.length_cons]; omega
/-- What is found by undoing, as a list. -/
def undL (r : List UInt8) : Nat → List (List UInt8)
  | 0 => [r]
  | k + 1 => (undL r k).flatMap undoneL
theorem mem_undL {r : List UInt8} : ∀ {k : Nat} {x : List UInt8}, x ∈ undL r k ↔ Und r k x
  | 0, x => by simp [undL, Und]
  | k + 1, x => by
    simp only [undL, Und, List.mem_flatMap]
    exact ⟨fun ⟨y, h1, h2⟩ => ⟨y, mem_undL.1 h1, h2⟩, fun ⟨y, h1, h2⟩ => ⟨y, mem_undL.2 h1, h2⟩⟩
theorem undL_len {r : List UInt8} (hr : r.length ≤ 100) : ∀ (k : Nat), ∀ x ∈ undL r k, x.length ≤ 100 + k
  | 0, x, h => by rw [List.mem_singleton.1 (show x ∈ [r] from h)]; omega
  | k + 1, x, h => by
    obtain ⟨y, hy, hx⟩ := List.mem_flatMap.1 (show x ∈ (undL r k).flatMap undoneL from h)
    have := undL_len hr k y hy
    have := undoneL_len hx
    omega
theorem undL_card {r : List UInt8} (hr : r.length ≤ 100) : ∀ (k : Nat), k ≤ 2 → (undL r k).length ≤ 516 ^ k
  | 0, _ => by simp [undL]
  | k + 1, hk => by
    have h1 := undL_card hr k (by omega)
    have h2 := flat_card (undL r k) (fun z hz => by have := undL_len hr k z hz; omega)
    have h3 : (undL r k).length * 516 ≤ 516 ^ k * 516 := Nat.mul_le_mul_right _ h1
    rw [Nat.pow_succ]
    exact Nat.le_trans h2 h3
/-- How many there are. -/
theorem found_card {m : Nat} (hm : m ≤ 2) {r : List UInt8} (hr : r.length ≤ 100) : (foundL m r 10).length ≤ 300000 := by
  have h1 : ((foundL m r 10).map fun p => signalL p.1).Nodup := by
    have hn := found_nodup m r
    rw [List.nodup_iff_pairwise_ne, List.pairwise_map] at hn ⊢
    refine hn.imp_of_mem fun {p q} hp hq hne he => hne ?_
    exact signal_inj (mem_found.1 (show (p.1, p.2) ∈ _ from hp)).1 (mem_found.1 (show (q.1, q.2) ∈ _ from hq)).1 he
  have h2 := nodup_len h1 (b := undL r m) (fun x hx => by
    obtain ⟨⟨y, k⟩, hp, rfl⟩ := List.mem_map.1 hx
    have h3 := mem_found.1 hp
    exact mem_undL.2 (((can_eT (m := (m : Int)) (by omega)).2 h3.2.1).und (signal_all h3.1)))
  have h3 := undL_card hr m hm
  have h4 : 516 ^ m ≤ 516 ^ 2 := Nat.pow_le_pow_right (by omega) hm
  rw [List.length_map] at h2
  omega
/-- Sorted, what is found is the list of the reference. -/
theorem both_lists {m : Nat} (hm : m ≤ 2) {r : List UInt8} {ys : List (List UInt8)} (hs : Strict ys) (hy : ∀ y, y ∈ ys ↔ wordB y = true ∧ Und r m (signalL y)) {L : List (List UInt8 × Int)} (hL : L.Pairwise ltP) (hp : L.Perm (foundL m r 10)) : L = refL r ys (m + 1) :=
  ltP_ext hL (refL_strict hs _) fun p => hp.mem_iff.trans (mem_ref hm hy p).symm
end Go.Proofs.YtjbdmlpadoiicaaGreatDoor

/-! How package beam compares two readings. -/
namespace Go.Proofs.YtjbdmlpadoiicaaGreatDoor
open Go.RowKit Go.Shelf

theorem isNaN_int (x : Int) (w : World) : Calls Tryz.prog 76 #[.int .i64 x] w fun e w' => e = .returned (.bool false) ∧ w = w' := by
  go_enter Tryz.func76, Tryz.ntmps76
  go_wp2_with fail
  go_ret
  exact ⟨ret_val (by simp), rfl⟩
def cmpZ (x y : Int) : Int := if x < y then -1 else if y < x then 1 else 0
theorem compareZ_any (x y : Int) (w : World) : Calls Tryz.prog 37 #[.int .i64 x, .int .i64 y] w fun e w' => e = .returned (.int .i64 (cmpZ x y)) ∧ w' = w := by
  rcases (by omega : x < y ∨ y < x ∨ x = y) with h | h | h
  · have HX : Hid (cmpZ x y = -1) := Lib.hid (by unfold cmpZ; rw [if_pos h])
    go_enter Tryz.func37, Tryz.ntmps37
    go_wp2_with fail
    refine (isNaN_int _ _).mono ?_
    rintro e w1 ⟨rfl, rfl⟩
    go_wp2_with fail
    refine (isNaN_int _ _).mono ?_
    rintro e w1 ⟨rfl, rfl⟩
    go_wp2_with fail
    go_ret
    exact ⟨ret_val (by rw [HX.out]; rfl), rfl⟩
  · have HX : Hid (cmpZ x y = 1) := Lib.hid (by unfold cmpZ; rw [if_neg (by omega), if_pos h])
    have h2 : ¬ x < y := by omega
    go_enter Tryz.func37, Tryz.ntmps37
    go_wp2_with fail
    refine (isNaN_int _ _).mono ?_
    rintro e w1 ⟨rfl, rfl⟩
    go_wp2_with fail
    refine (isNaN_int _ _).mono ?_
    rintro e w1 ⟨rfl, rfl⟩
    go_wp2_with fail
    go_ret
    exact ⟨ret_val (by rw [HX.out]; rfl), rfl⟩
  · subst h
    have HX : Hid (cmpZ x x = 0) := Lib.hid (by unfold cmpZ; rw [if_neg (by omega), if_neg (by omega)])
    go_enter Tryz.func37, Tryz.ntmps37
    go_wp2_with fail
    refine (isNaN_int _ _).mono ?_
    rintro e w1 ⟨rfl, rfl⟩
    go_wp2_with fail
    refine (isNaN_int _ _).mono ?_
    rintro e w1 ⟨rfl, rfl⟩
    go_wp2_with fail
    go_ret
    exact ⟨ret_val (by rw [HX.out]; rfl), rfl⟩

theorem orZ_two (w : World) (g : Nat) (a b : Int) (c0 : w.cell? ⟨g, 0, none⟩ = some (.int .i64 a)) (c1 : w.cell? ⟨g, 1, none⟩ = some (.int .i64 b)) :
    Calls Tryz.prog 36 #[.slice (some ⟨g, 0, none⟩) 2 2] w fun e w' => e = .returned (.int .i64 (orI a b)) ∧ w' = w := by
  have HO : Hid (orI a b = if a = 0 then b else a) := Lib.hid rfl
  go_enter Tryz.func36, Tryz.ntmps36
  go_wp2_with fail
  go_loop [8] (fun i => ∃ k : Nat, k ≤ 2 ∧ i = .int .i64 k ∧ (0 < k → a = 0) ∧ (1 < k → b = 0)) (fun i => 2 - (intOf i).toNat)
  case atStart => exact ⟨0, by omega, rfl, by omega, by omega⟩
  case round =>
    obtain ⟨k, hk, rfl, ha, hb⟩ := hrel
    rcases (by omega : k = 0 ∨ k = 1 ∨ k = 2) with rfl | rfl | rfl
    · by_cases hz : a = 0
      · subst hz
        go_wp2_with fail
        go_round
        case rel => exact ⟨1, by omega, rfl, by simp, by omega⟩
        case measure => simp [intOf]
      · have hq : (a != 0) = true := by simpa using hz
        have HO2 := Lib.hid (HO.out.trans (if_neg hz))
        clear hz
        go_wp2_with fail
        go_ret
        exact ⟨ret_val (by rw [HO2.out]; rfl), rfl⟩
    · have HA := Lib.hid (HO.out.trans (if_pos (ha (by omega))))
      have HA0 := Lib.hid (ha (by omega))
      clear ha
      by_cases hz : b = 0
      · subst hz
        go_wp2_with fail
        go_round
        case rel => exact ⟨2, by omega, rfl, fun _ => HA0.out, by simp⟩
        case measure => simp [intOf]
      · have hq : (b != 0) = true := by simpa using hz
        clear hz
        go_wp2_with fail
        go_ret
        exact ⟨ret_val (by rw [HA.out]; rfl), rfl⟩
    · have HA := Lib.hid ((HO.out.trans (if_pos (ha (by omega)))).trans (hb (by omega)))
      clear ha hb
      go_wp2_with fail
      go_ret
      exact ⟨ret_val (by rw [HA.out]; rfl), rfl⟩


/-- How two readings compare. -/
def cmpP (p q : List UInt8 × Int) : Int := orI (cmpZ p.2 q.2) (cmpI p.1 q.1)
def readP (p : List UInt8 × Int) : Value := .agg (encP p).toArray
theorem grow_three (w : World) (a b c : Obj) (m : Nat) : ((((w.alloc a).alloc b).alloc c).drewN m) = Go.Sort.grow (w.drewN m) #[a, b, c] := by
  rw [← alloc_drewN, ← alloc_drewN, ← alloc_drewN]
  simp only [Go.Sort.alloc_eq_grow, Go.Sort.grow_grow]
  rfl

set_option maxRecDepth 100000 in
theorem cmpP_any (p q : List UInt8 × Int) (w : World) :
    Calls Tryz.prog 35 #[readP p, readP q] w fun e w' => e = .returned (.int .i64 (cmpP p q)) ∧ ∃ m os, w' = Go.Sort.grow (w.drewN m) os := by
  obtain ⟨x, a⟩ := p
  obtain ⟨y, b⟩ := q
  show Calls Tryz.prog 35 #[.agg #[.string (B x), .int .i64 a], .agg #[.string (B y), .int .i64 b]] w _
  have HC : Hid (cmpP (x, a) (y, b) = orI (cmpZ a b) (cmpI x y)) := Lib.hid rfl
  have C1 := Lib.hid (fun w => compareZ_any a b w)
  have C2 := Lib.hid (fun w => compare_quiet x y w)
  go_enter Tryz.func35, Tryz.ntmps35
  go_wp2_with fail
  refine wp_still_tail1 10 (by kernel_rfl) (by kernel_rfl) ?_
  simp only [List.take_succ_cons, List.take_zero, List.drop_succ_cons, List.drop_zero]
  iterate 4 still_step
  still_call (C1.out _)
  iterate 4 still_step
  still_call (C2.out _)
  refine wpStill_nil ?_
  go_wp2_with fail
  refine (orZ_two _ _ (cmpZ a b) (cmpI x y) (by go_simp) (by go_simp)).mono ?_
  rintro e w3 ⟨rfl, rfl⟩
  go_wp2_with fail
  go_ret
  exact ⟨ret_val (by rw [HC.out]; rfl), 1, _, grow_three w _ _ _ 1⟩
end Go.Proofs.YtjbdmlpadoiicaaGreatDoor

/-! Readings are sorted. -/
namespace Go.Proofs.YtjbdmlpadoiicaaGreatDoor
open Go.RowKit Go.Shelf
open Go.Proofs

theorem ltOf_cmpP (p q : List UInt8 × Int) : ltOf cmpP p q = true ↔ ltP p q := by
  unfold ltOf cmpP ltP
  rw [decide_eq_true_eq]
  rcases (by omega : p.2 < q.2 ∨ q.2 < p.2 ∨ p.2 = q.2) with h | h | h
  · have e : cmpZ p.2 q.2 = -1 := by unfold cmpZ; rw [if_pos h]
    have e2 : orI (-1) (cmpI p.1 q.1) = -1 := by unfold orI; rw [if_neg (by decide)]
    rw [e, e2]; exact ⟨fun _ => .inl h, fun _ => by decide⟩
  · have e : cmpZ p.2 q.2 = 1 := by unfold cmpZ; rw [if_neg (by omega), if_pos h]
    have e2 : orI 1 (cmpI p.1 q.1) = 1 := by unfold orI; rw [if_neg (by decide)]
    rw [e, e2]
    constructor
    · intro k; omega
    · rintro (k | k)
      · omega
      · have := k.1; omega
  · have e : cmpZ p.2 q.2 = 0 := by unfold cmpZ; rw [if_neg (by omega), if_neg (by omega)]
    have e2 : orI 0 (cmpI p.1 q.1) = cmpI p.1 q.1 := by unfold orI; rw [if_pos rfl]
    rw [e, e2]
    unfold cmpI
    by_cases h3 : p.1 < q.1
    · rw [if_pos h3]; exact ⟨fun _ => .inr ⟨h, h3⟩, fun _ => by decide⟩
    · rw [if_neg h3]
      constructor
      · intro k; split at k <;> omega
      · rintro (k | k)
        · omega
        · exact absurd k.2 h3
theorem ltP_tri (p q : List UInt8 × Int) : ltP p q ∨ p = q ∨ ltP q p := by
  rcases (by omega : p.2 < q.2 ∨ p.2 = q.2 ∨ q.2 < p.2) with h | h | h
  · exact .inl (.inl h)
  · by_cases e : p.1 = q.1
    · exact .inr (.inl (Prod.ext e h))
    · rcases List.le_total p.1 q.1 with h2 | h2
      · exact .inl (.inr ⟨h, lt_of_le_ne h2 e⟩)
      · exact .inr (.inr (.inr ⟨h.symm, lt_of_le_ne h2 (fun k => e k.symm)⟩))
  · exact .inr (.inr (.inl h))
theorem swoP : Go.Sort.SWO (ltOf cmpP) where
  irrefl x := by
    cases h : ltOf cmpP x x with
    | false => rfl
    | true => exact absurd ((ltOf_cmpP x x).1 h) (ltP_irr x)
  trans x y z h1 h2 := (ltOf_cmpP x z).2 (ltP_trans ((ltOf_cmpP x y).1 h1) ((ltOf_cmpP y z).1 h2))
  ntrans x y z h1 h2 := by
    cases h : ltOf cmpP x z with
    | false => rfl
    | true =>
      have h3 := (ltOf_cmpP x z).1 h
      have n1 : ¬ ltP x y := fun k => by rw [(ltOf_cmpP x y).2 k] at h1; cases h1
      have n2 : ¬ ltP y z := fun k => by rw [(ltOf_cmpP y z).2 k] at h2; cases h2
      rcases ltP_tri x y with k | k | k
      · exact absurd k n1
      · subst k; exact absurd h3 n2
      · exact absurd (ltP_trans k h3) n2
theorem cmpLays35 (blk off size : Nat) (w : World) : CmpLays Tryz.prog 35 #[] encP 2 cmpP blk off size w :=
  fun _ _ _ _ x y => cmpP_any x y _

shelf_lay_g SlLaysF0.n6 Slsf 6 at Tryz 34 as sortSent
end Go.Proofs.YtjbdmlpadoiicaaGreatDoor

/-! The sort of readings. -/
namespace Go.Proofs.YtjbdmlpadoiicaaGreatDoor
open Go.RowKit Go.Shelf
open Go.Proofs

theorem grown_sortK (w : World) (g n : Nat) (d : Array (List UInt8 × Int)) (os : Array Obj) : w.grownBy (sortWorldK encP 2 w g 0 n d os) (some g) := by
  refine ⟨rfl, rfl, rfl, ?_, fun k hk hne => ?_⟩
  · show w.heap.size ≤ ((w.heap.modify g _) ++ os).size
    simp
  · show ((w.heap.modify g _) ++ os)[k]? = w.heap[k]?
    rw [Array.getElem?_append_left (by simpa using hk), Array.getElem?_modify, if_neg (fun e => hne (by rw [e]))]
theorem encP_flat (l : List (List UInt8 × Int)) (t : Nat) (h : t < l.length * 2) : (Go.Sort.flatK encP 2 l.toArray)[t]! = ((l.flatMap encP)[t]?).getD default := by
  rw [Go.Sort.get_flatK encP 2 _ _ (by simpa using h)]
  have h1 := encP_get l (t / 2) (by omega)
  have e1 : l.toArray[t / 2]! = l.getD (t / 2) default := by
    rw [List.getD_eq_getElem?_getD]; simp [show t / 2 < l.length by omega]
  rcases (by omega : t = 2 * (t / 2) ∨ t = 2 * (t / 2) + 1) with e | e
  · rw [show t % 2 = 0 by omega, e1]
    rw [e, show 2 * (t / 2) / 2 = t / 2 by omega, h1.1]
    simp [encP, List.getElem?_eq_getElem (show t / 2 < l.length by omega)]
  · rw [show t % 2 = 1 by omega, e1]
    rw [e, show (2 * (t / 2) + 1) / 2 = t / 2 by omega, h1.2]
    simp [encP, List.getElem?_eq_getElem (show t / 2 < l.length by omega)]

/-- A row that is sorted. -/
theorem holdsK_row {w : World} {base g cap : Nat} {l : List (List UInt8 × Int)} (h : w.ownsRow base 61 2 (.slice (some ⟨g, 0, none⟩) l.length cap) l.length (l.flatMap encP)) : Go.Sort.HoldsK encP 2 w g 0 l.toArray ∧ g < w.heap.size ∧ base ≤ g ∧ l.length ≤ cap := by
  rcases h.2 with ⟨h0, _⟩ | ⟨g', cap', cur, hv, hg, hb, hn, hm, hs, ht⟩
  · cases h0
  · cases hv
    refine ⟨fun j hj => ?_, (Array.getElem?_eq_some_iff.1 hb).1, hg, hn⟩
    rw [Go.Sort.size_flatK] at hj
    have hj' : j < l.length * 2 := by simpa using hj
    refine ⟨?_, free_of_heap hb _⟩
    rw [cell_of_heap hb, Nat.zero_add]
    have hc : cur[j]? = (l.flatMap encP)[j]? := by
      rw [← ht, List.getElem?_take_of_lt hj', Array.getElem?_toList]
    have hsz : j < cur.size := by omega
    rw [hc]
    have := encP_flat l j hj'
    show _ = some ((Go.Sort.flatK encP 2 l.toArray)[j]!)
    rw [this]
    cases h : (l.flatMap encP)[j]? with
    | some x => rfl
    | none => rw [h] at hc; rw [Array.getElem?_eq_getElem hsz] at hc; cases hc

theorem sort_some {base g cap : Nat} {l : List (List UInt8 × Int)} (hk : (l.map Prod.fst).Nodup) (hl : l.length ≤ 1000000) (w : World) (h : w.ownsRow base 61 2 (.slice (some ⟨g, 0, none⟩) l.length cap) l.length (l.flatMap encP)) :
    Calls Tryz.prog 34 #[.slice (some ⟨g, 0, none⟩) l.length cap, .func (.func 35) #[] #[]] w fun e w' => e = .returned (.tuple #[]) ∧
      ∃ L, PRow w' (.slice (some ⟨g, 0, none⟩) l.length cap) L ∧ L.Pairwise ltP ∧ (∀ p, p ∈ L ↔ p ∈ l) ∧ w.grownBy w' (some g) := by
  obtain ⟨hH, hg, hb, hc⟩ := holdsK_row h
  have eg : ∀ args w, (callFunc 35 args).run Tryz.prog w = .ok (.enter 35 args) w := enters_of Tryz.func35 (by kernel_rfl) rfl
  have hcon := AnyQ.slices_SortFunc sortSent 2 (fun w => by kernel_rfl) (fun w => by kernel_rfl) encP (fun _ => rfl) (fun x v hv => by simp [encP] at hv; rcases hv with rfl | rfl <;> rfl) cmpP swoP 35 #[] g 0 cap l.toArray w eg (cmpLays35 g 0 l.toArray.size w) hH hg (by simp; omega)
  change Calls Tryz.prog 34 _ _ _ at hcon
  rw [show l.toArray.size = l.length by simp] at hcon
  refine hcon.mono ?_
  rintro e w' ⟨rfl, d', n, os, hp, hs, rfl⟩
  have hsz : d'.size = l.length := by have := hp.1; simpa using this
  have hperm : d'.toList.Perm l := by
    have := hp.2.2
    rw [show d'.extract 0 l.length = d' by rw [← hsz]; simp] at this
    simpa using this
  have hH' := holdsK_sortWorldK_c encP 2 w g 0 l.toArray d' n os hH hg (by simpa using hsz)
  refine ⟨rfl, d'.toList, ?_, ?_, fun p => hperm.mem_iff, grown_sortK w g n d' os⟩
  · refine .inr ⟨g, cap, by simp [hsz], by simpa [hsz] using hc, ?_, fun k hk => ?_⟩
    · have := (grown_sortK w g n d' os).size; omega
    · have hk' : k < d'.toList.length := hk
      have e1 := (hH' (2 * k) (by rw [Go.Sort.size_flatK]; simp at hk'; omega)).1
      have e2 := (hH' (2 * k + 1) (by rw [Go.Sort.size_flatK]; simp at hk'; omega)).1
      have f1 := encP_flat d'.toList (2 * k) (by omega)
      have f2 := encP_flat d'.toList (2 * k + 1) (by omega)
      have g1 := encP_get d'.toList k hk'
      rw [Nat.zero_add] at e1 e2
      rw [Array.toArray_toList] at f1 f2
      rw [g1.1] at f1
      rw [g1.2] at f2
      exact ⟨e1.trans (congrArg some f1), e2.trans (congrArg some f2)⟩
  · rw [List.pairwise_iff_getElem]
    intro i j hi hj hij
    have h1 := hs i j (Nat.zero_le _) hij (by simp at hj; omega)
    have hn : (d'.toList.map Prod.fst).Nodup := (hperm.map Prod.fst).nodup_iff.2 hk
    have hne : d'.toList[i] ≠ d'.toList[j] := fun e => by
      have := (List.pairwise_iff_getElem.1 hn) i j (by simpa using hi) (by simpa using hj) hij
      simp only [List.getElem_map] at this
      exact this (by rw [e])
    have e1 : d'[i]! = d'.toList[i] := by simp at hi; simp [hi]
    have e2 : d'[j]! = d'.toList[j] := by simp at hj; simp [hj]
    rw [e1, e2] at h1
    rcases ltP_tri d'.toList[i] d'.toList[j] with k | k | k
    · exact k
    · exact absurd k hne
    · rw [(ltOf_cmpP _ _).2 k] at h1; cases h1
theorem sort_none (p : Option Addr) (cap : Nat) (fv : Value) (w : World) :
    Calls Tryz.prog 34 #[.slice p 0 cap, fv] w fun e w' => e = .returned (.tuple #[]) ∧ w' = w :=
  AnyF.slices_SortFunc_none sortSent p cap fv w
end Go.Proofs.YtjbdmlpadoiicaaGreatDoor
