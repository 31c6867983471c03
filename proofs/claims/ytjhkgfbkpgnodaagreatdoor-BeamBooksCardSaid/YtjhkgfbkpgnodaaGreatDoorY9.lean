/- A map from pairs of numbers to bools. -/
import Derived.Test.YtjhkgfbkpgnodaaGreatDoorY7
import Derived.Test.YtjhkgfbkpgnodaaGreatDoorK0
import Derived.Maps.Views
import Derived.Maps.Keyed
import Derived.DeepKeys4
import Derived.Test.YtjhkgfbkpgnodaaGreatDoorY4
namespace Go.Proofs.YtjhkgfbkpgnodaaGreatDoor
open Go.RowKit Go.Shelf

def keyB (i j : Nat) : List UInt8 := [0, 0, 0, 0, 0, 0, 0, UInt8.ofNat i, 0, 0, 0, 0, 0, 0, 0, UInt8.ofNat j]
theorem keyB_fin : ∀ a b c d : Fin 4, keyB a b = keyB c d → a = c ∧ b = d := by decide +kernel
theorem keyB_inj {a b c d : Nat} (ha : a < 4) (hb : b < 4) (hc : c < 4) (hd : d < 4) (h : keyB a b = keyB c d) : a = c ∧ b = d := by
  have := keyB_fin ⟨a, ha⟩ ⟨b, hb⟩ ⟨c, hc⟩ ⟨d, hd⟩ h
  simpa using this
theorem lawPair : Maps.Keyed Tryz.prog 104 := Maps.Keyed.of_law (deep_law_laid laidOut (m := 3) (by decide) (of_decide_eq_true (by kernel_rfl)) (by kernel_rfl) (by kernel_rfl))
theorem key_pair {i j : Nat} (h : i < j) (h4 : j < 4) : keyOf Tryz.prog 104 (.agg #[.int .i64 i, .int .i64 j]) = some (.string (keyB i j)) := by
  rcases (by omega : (i = 0 ∧ j = 1) ∨ (i = 0 ∧ j = 2) ∨ (i = 0 ∧ j = 3) ∨ (i = 1 ∧ j = 2) ∨ (i = 1 ∧ j = 3) ∨ (i = 2 ∧ j = 3)) with ⟨rfl, rfl⟩ | ⟨rfl, rfl⟩ | ⟨rfl, rfl⟩ | ⟨rfl, rfl⟩ | ⟨rfl, rfl⟩ | ⟨rfl, rfl⟩ <;> kernel_rfl
theorem plainBool_inv {P : Program} {e : TypeId} (he : P.underlying e = some .bool) {v : Value} {z : DataW Unit × List MemPlace} (h : plainElem (H := Unit) P e v = some z) : ∃ x, v = .bool x ∧ z = (.lit (.bool x), []) := by
  unfold plainElem at h
  rw [he] at h
  cases v <;> simp at h
  rename_i x
  exact ⟨x, rfl, h.symm⟩

def PMap (w : World) (b : Nat) (c : Nat → Nat → Bool) (n i k : Nat) : Prop :=
  ∃ D : DataW Unit, w.ownsMap Tryz.prog 104 (plainElem (H := Unit) Tryz.prog 4) b (4 * i + k) D ∧ Maps.IsMap D ∧ ∀ a d, a < d → d < n → (a < i ∨ a = i ∧ d < k) → ∀ z, D.atKey (.string (keyB a d)) z = .lit (.bool (c a d))
theorem PMap.kept {w w' : World} {b : Nat} {c : Nat → Nat → Bool} {n i k : Nat} (h : PMap w b c n i k) (hb : Below w.heap.size w w') : PMap w' b c n i k := by
  obtain ⟨D, h1, h2, h3⟩ := h
  exact ⟨D, h1.kept (row := none) ⟨hb.os, hb.tape, hb.output, hb.size, fun j hj _ => hb.block j hj⟩ (by simp), h2, h3⟩
theorem PMap.start (w : World) (c : Nat → Nat → Bool) (n : Nat) : PMap (w.alloc (.map #[] 0)) w.heap.size c n 0 1 :=
  ⟨_, (World.ownsMap_made w Tryz.prog 104 (plainElem (H := Unit) Tryz.prog 4)).mono (by omega), Maps.isMap_empty, fun a d h1 h2 h3 => by omega⟩
theorem PMap.next {w : World} {b : Nat} {c : Nat → Nat → Bool} {n i : Nat} (h : PMap w b c n i n) (hi : i < n) (hn : n ≤ 4) : PMap w b c n (i + 1) (i + 2) := by
  obtain ⟨D, h1, h2, h3⟩ := h
  exact ⟨D, h1.mono (by omega), h2, fun a d ha hd hx => h3 a d ha hd (by omega)⟩
theorem PMap.one {w w' : World} {b : Nat} {c : Nat → Nat → Bool} {n i k : Nat} (hik : i < k) (hkn : k < n) (hn : n ≤ 4) {D : DataW Unit} (h2 : Maps.IsMap D) (h3 : ∀ a d, a < d → d < n → (a < i ∨ a = i ∧ d < k) → ∀ z, D.atKey (.string (keyB a d)) z = .lit (.bool (c a d)))
    (h : w'.ownsMap Tryz.prog 104 (plainElem (H := Unit) Tryz.prog 4) b (4 * i + k + 1) (D.put (.string (keyB i k)) (.lit (.bool (c i k))))) : PMap w' b c n i (k + 1) := by
  refine ⟨_, h, h2.put _ _, fun a d ha hd hx z => ?_⟩
  by_cases e : a = i ∧ d = k
  · obtain ⟨rfl, rfl⟩ := e
    exact Maps.atKey_put_same h2 (litKey _) _ _
  · rw [Maps.atKey_put_other (fun e' => by
      have := keyB_inj (by omega) (by omega) (by omega) (by omega) (Lit.string.inj e')
      exact e this)]
    exact h3 a d ha hd (by omega) z
/-- What the map answers. -/
theorem PMap.look {w : World} {b : Nat} {c : Nat → Nat → Bool} {n i k : Nat} (h : PMap w b c n i k) {a d : Nat} (had : a < d) (hdn : d < n) (hn : n ≤ 4) (hx : a < i ∨ a = i ∧ d < k) :
    (Instr.lookup 103 (.map (some b)) (.agg #[.int .i64 a, .int .i64 d]) false).run Tryz.prog w = .ok (.bool (c a d)) w := by
  obtain ⟨D, h1, h2, h3⟩ := h
  obtain ⟨v, ps, hrun, hv⟩ := h1.lookup (t := 103) (e := 4) lawPair Tryz.underlying103 (z := .bool false) (by kernel_rfl) (plainElem_bool Tryz.underlying4 false) (key_pair had (by omega))
  rw [h3 a d had hdn hx] at hv
  obtain ⟨x, rfl, e⟩ := plainBool_inv Tryz.underlying4 hv
  cases e
  exact hrun
end Go.Proofs.YtjhkgfbkpgnodaaGreatDoor

/-! The reference's Largest. -/
namespace Go.Proofs.YtjhkgfbkpgnodaaGreatDoor
open Go.RowKit Go.Shelf

def encI (x : Nat) : Value := .int .i64 x
theorem info_int : (Tryz.prog.info? 3).map (fun i => (i.zero, i.size, i.bytes)) = some (some (.int .i64 0), 1, 8) := by kernel_rfl
theorem IRow.of_own {w : World} {base : Nat} {v : Value} {l : List Nat} (h : w.ownsRow base 3 1 v l.length (l.map encI)) : IRow w v l := by
  rcases h.2 with ⟨h0, hn⟩ | ⟨g, cap, cur, hv, hg, hb, hn, _⟩
  · exact .inl ⟨h0, List.eq_nil_of_length_eq_zero (by omega)⟩
  · subst hv
    refine .inr ⟨g, cap, rfl, hn, (Array.getElem?_eq_some_iff.1 hb).1, fun i hi => ?_⟩
    have := h.cellAt i (by simpa using hi)
    rw [List.getD_eq_getElem?_getD, List.getElem?_eq_getElem hi]
    simpa [encI, List.getElem?_eq_getElem hi] using this
abbrev resC : Array Value := #[.slice none 0 0, .int .i64 0]

set_option maxRecDepth 100000 in
set_option maxHeartbeats 1000000 in
theorem rLargest_err (v : Value) (l : List (List UInt8)) (n : Int) (w : World) (hv : SRow w v l) (hm : ∀ s ∈ l, s.length ≤ maxLen) (hl : l.length ≤ 1000000) (hE : booksE l n ≠ 0) :
    Calls Tryz.prog 20 #[v, .int .i64 n] w fun e w' => e = .returned (.agg #[.slice none 0 0, .int .i64 (booksE l n)]) ∧ Below w.heap.size w w' := by
  obtain ⟨q, eq⟩ : ∃ q, booksE l n = q := ⟨_, rfl⟩
  rw [eq] at hE ⊢
  have hne : (q != 0) = true := by simpa using hE
  have HQ : Hid (orI (bookE l) (faultsE n) = q) := Lib.hid eq
  have HC : Hid (∀ o, _) := Lib.hid (fun o => rbook_any v l n (w.alloc o) (hv.keep ((Below.refl _ w).alloc (Nat.le_refl _) o)) hm hl)
  clear hE eq hv hm
  go_enter Tryz.func20, Tryz.ntmps20
  go_wp2_with fail
  refine (HC.out _).mono ?_
  rintro e w1 ⟨rfl, hb⟩
  rw [HQ.out]
  have hc1 : w1.heap[w.heap.size]? = some (.cells resC 52 (0, 0)) := (hb.block _ (by simp)).trans (World.alloc_heap_new w _)
  have d0 := cell_of_heap hc1 0
  have d1 := cell_of_heap hc1 1
  have g0 := free_of_heap hc1 0
  have g1 := free_of_heap hc1 1
  simp at d0 d1
  have HB : Hid (Below w.heap.size w w1) := Lib.hid (((Below.refl _ w).alloc (Nat.le_refl _) _).trans (hb.mono (by simp)))
  clear hb hc1
  go_wp2_with fail
  refine bodyPost_ret (v := .agg #[.slice none 0 0, .int .i64 q]) ?_ rfl ⟨rfl, ?_⟩
  · simp [results, Tryz.results20, go_sem, d0, d1]
  · exact (HB.out.setCell (p := ⟨w.heap.size, 0, none⟩) (Nat.le_refl _) _).setCell (p := ⟨w.heap.size, 1, none⟩) (Nat.le_refl _) _

theorem quo_int (s p : Nat) : (s : Int).tdiv (p : Int) = ((s / p : Nat) : Int) := by rw [Int.tdiv_eq_ediv_of_nonneg (by omega)]; omega
theorem rem_int (q : Nat) : (q : Int).tmod 2 = ((q % 2 : Nat) : Int) := by rw [Int.tmod_eq_emod_of_nonneg (by omega)]; omega
theorem shl_int (x : Nat) (hx : x ≤ 4) : IntKind.i64.wrap (2 ^ x) = ((2 ^ x : Nat) : Int) ∧ IntKind.i64.wrap (2 ^ min x 64) = ((2 ^ x : Nat) : Int) := by
  rcases (by omega : x = 0 ∨ x = 1 ∨ x = 2 ∨ x = 3 ∨ x = 4) with rfl | rfl | rfl | rfl | rfl <;> exact ⟨rfl, rfl⟩
/-- What stays true in the reference's Largest once the map is laid. -/
structure LgSt (w wr : World) (bM : Nat) (c : Nat → Nat → Bool) (n : Nat) : Prop where
  below : Below w.heap.size w wr
  res : wr.heap[w.heap.size]? = some (.cells resC 52 (0, 0))
theorem LgSt.keep {w wr w2 : World} {bM : Nat} {c : Nat → Nat → Bool} {n : Nat} (h : LgSt w wr bM c n) (hb : Below wr.heap.size wr w2) : LgSt w w2 bM c n :=
  ⟨h.below.trans (hb.mono h.below.size), (hb.block _ (Array.getElem?_eq_some_iff.1 h.res).1).trans h.res⟩
theorem LgSt.map {w wr w2 : World} {bM : Nat} {c : Nat → Nat → Bool} {n : Nat} (h : LgSt w wr bM c n) (hb : wr.grownBy w2 (some bM)) (hM : w.heap.size < bM) : LgSt w w2 bM c n :=
  ⟨h.below.grown hb h.below.size (fun k e => by cases e; omega), (hb.block _ (Array.getElem?_eq_some_iff.1 h.res).1 (by simp; omega)).trans h.res⟩
theorem bigR_len (c : Nat → Nat → Bool) (k : Nat) : ∀ s, (bigR c k s).length ≤ k
  | 0 => by simp [bigR]
  | s + 1 => by
    unfold bigR
    split
    · exact Nat.le_trans (List.length_filter_le _ _) (by rw [List.length_range]; omega)
    · exact bigR_len c k s
theorem someL_len (k s : Nat) : (someL k s).length ≤ k := Nat.le_trans (List.length_filter_le _ _) (by rw [List.length_range]; omega)
/-- A row that lies in another block than r. -/
def IRowN (r : Nat) (w : World) (v : Value) (l : List Nat) : Prop :=
  (v = .slice none 0 0 ∧ l = []) ∨ ∃ b cap, v = .slice (some ⟨b, 0, none⟩) l.length cap ∧ l.length ≤ cap ∧ b < w.heap.size ∧ (l ≠ [] → b ≠ r) ∧ ∀ i, i < l.length → w.cell? ⟨b, i, none⟩ = some (.int .i64 (l.getD i 0 : Nat))
theorem IRow.far {w : World} {v : Value} {l : List Nat} (h : IRow w v l) {r : Nat} (hr : ∀ x : Int, w.cell? ⟨r, 0, none⟩ ≠ some (.int .i64 x)) : IRowN r w v l := by
  rcases h with h | ⟨b, cap, h1, h2, h3, h4⟩
  · exact .inl h
  · exact .inr ⟨b, cap, h1, h2, h3, fun hl e => by subst e; exact hr _ (h4 0 (List.length_pos_iff.2 hl)), h4⟩
theorem IRowN.setCell {r : Nat} {w : World} {v : Value} {l : List Nat} (h : IRowN r w v l) (o : Nat) (u : Value) : IRowN r (w.setCell ⟨r, o, none⟩ u) v l := by
  rcases h with h | ⟨b, cap, h1, h2, h3, h5, h4⟩
  · exact .inl h
  · exact .inr ⟨b, cap, h1, h2, by simpa using h3, h5, fun i hi => (World.cell?_of_block (w := w) (a := ⟨b, i, none⟩) (Below.heap_setCell _ _ _ b (h5 (fun e => by rw [e] at hi; simp at hi)))).trans (h4 i hi)⟩
theorem IRowN.row {r : Nat} {w : World} {v : Value} {l : List Nat} (h : IRowN r w v l) : IRow w v l := by
  rcases h with h | ⟨b, cap, h1, h2, h3, _, h4⟩
  · exact .inl h
  · exact .inr ⟨b, cap, h1, h2, h3, h4⟩
end Go.Proofs.YtjhkgfbkpgnodaaGreatDoor

/-! The reference's Largest: the walk. -/
namespace Go.Proofs.YtjhkgfbkpgnodaaGreatDoor
open Go.RowKit Go.Shelf

set_option maxRecDepth 100000 in
set_option maxHeartbeats 4000000 in
theorem rLargest_ok (v : Value) (l : List (List UInt8)) (n : Nat) (w : World) (hv : SRow w v l) (hm : ∀ s ∈ l, s.length ≤ maxLen) (hl : l.length ≤ 4) (hE : booksE l n = 0) :
    Calls Tryz.prog 20 #[v, .int .i64 n] w fun e w' => ∃ u, e = .returned (.agg #[u, .int .i64 0]) ∧ IRow w' u (bigR (bookC l n) l.length (2 ^ l.length)) ∧ Below w.heap.size w w' := by
  obtain ⟨hw, _, _, h3⟩ := booksE_ok hE
  have hn : n ≤ 2 := by omega
  have HQ : Hid (orI (bookE l) (faultsE n) = 0) := Lib.hid hE
  have HBK : Hid (∀ o, _) := Lib.hid (fun o => rbook_any v l n (w.alloc o) (hv.keep ((Below.refl _ w).alloc (Nat.le_refl _) o)) hm (by omega))
  obtain ⟨a, cap, rfl, hc⟩ := hv.form
  have HC := Lib.hid hc
  have HW : Hid (∀ k, k < l.length → wordB (l.getD k []) = true) := Lib.hid (fun k hk => List.all_eq_true.1 hw _ (getD_mem hk))
  have hmm := @run_makeMap Tryz.prog
  clear hE hv hm hc h3 hw
  go_enter Tryz.func20, Tryz.ntmps20
  go_wp2_with fail
  refine (HBK.out _).mono ?_
  rintro e w1 ⟨rfl, hb⟩
  rw [HQ.out]
  have hc1 : w1.heap[w.heap.size]? = some (.cells resC 52 (0, 0)) := (hb.block _ (by simp)).trans (World.alloc_heap_new w _)
  have hlt1 : w.heap.size < w1.heap.size := (Array.getElem?_eq_some_iff.1 hc1).1
  have HB : Hid (LgSt w w1 w1.heap.size (bookC l n) l.length) := Lib.hid ⟨((Below.refl _ w).alloc (Nat.le_refl _) _).trans (hb.mono (by simp)), hc1⟩
  clear hb hc1 HBK
  go_wp2_with fail
  go_loopw [7] (fun i wr => ∃ k : Nat, k ≤ l.length ∧ i = .int .i64 k ∧ Hid (PMap wr w1.heap.size (bookC l n) l.length k (k + 1)) ∧ Hid (LgSt w wr w1.heap.size (bookC l n) l.length)) (fun i _ => l.length - (intOf i).toNat)
  case atStart => exact ⟨0, by omega, rfl, Lib.hid (PMap.start w1 _ _), Lib.hid (HB.out.keep ((Below.refl _ _).alloc (Nat.le_refl _) _))⟩
  case round =>
    clear hmm
    obtain ⟨k, hk, rfl, hM, hB⟩ := hrel
    by_cases hkl : k < l.length
    · obtain ⟨g, off, rfl, hg, c0⟩ := HC.out k hkl
      clear c0
      have hki : (k : Int) < l.length := by omega
      have hk0 : (0 : Int) ≤ k := by omega
      go_wp2_with fail
      go_loopw [8] (fun i ws => ∃ j : Nat, k + 1 ≤ j ∧ j ≤ l.length ∧ i = .int .i64 j ∧ Hid (PMap ws w1.heap.size (bookC l n) l.length k j) ∧ Hid (LgSt w ws w1.heap.size (bookC l n) l.length)) (fun i _ => l.length - (intOf i).toNat)
      case atStart => exact ⟨k + 1, Nat.le_refl _, by omega, by go_num, hM, hB⟩
      case round =>
        clear hM hB
        obtain ⟨j, hkj, hj, rfl, hM, hB2⟩ := hrel
        by_cases hjl : j < l.length
        · have hji : (j : Int) < l.length := by omega
          have hj0 : (0 : Int) ≤ j := by omega
          obtain ⟨xs, hxs⟩ := shareV_is (confO (l.getD k []) (l.getD j []) n)
          obtain ⟨bb, hbb⟩ : ∃ bb, bookC l n k j = bb := ⟨_, rfl⟩
          rw [(bookC_at l n hkj (by omega)).symm.trans hbb |> fun h => (show (confO (l.getD k []) (l.getD j []) n).isSome = bb from h)] at hxs
          obtain ⟨x, hx⟩ : ∃ x, l.getD k [] = x := ⟨_, rfl⟩
          obtain ⟨y, hy⟩ : ∃ y, l.getD j [] = y := ⟨_, rfl⟩
          have hwx : wordB x = true := by rw [← hx]; exact HW.out k hkl
          have hwy : wordB y = true := by rw [← hy]; exact HW.out j hjl
          rw [hx, hy] at hxs
          have K0 : Hid (∀ W', Below wr.heap.size wr W' → W'.cell? ⟨g, off + k, none⟩ = some (.string (B x)) ∧ W'.cell? ⟨g, off + j, none⟩ = some (.string (B y))) :=
            Lib.hid fun W' h => ⟨by rw [← hx]; exact getD_lt HC.out rfl hkl (hB2.out.1.trans (h.mono hB2.out.1.size)), by rw [← hy]; exact getD_lt HC.out rfl hjl (hB2.out.1.trans (h.mono hB2.out.1.size))⟩
          have CK : Hid (∀ W', Below wr.heap.size wr W' → Calls Tryz.prog 50 #[.string (B x), .string (B y), .int .i64 n] W' fun e w' => e = .returned (.tuple #[.string xs, .bool bb]) ∧ Below wr.heap.size wr w') :=
            Lib.hid fun W' h => (meet_any x y n W' hwx hwy hn).mono fun e w' ⟨he, hb⟩ => ⟨by rw [he]; exact congrArg Ending.returned hxs, h.trans (hb.mono h.size)⟩
          have HBB := Lib.hid hbb
          clear hxs hx hy hwx hwy hbb
          go_wp2_with fail
          refine wp_region_turn 14 (fun _ w' => Below wr.heap.size wr w') (by kernel_rfl) (by kernel_rfl) ((Below.refl _ _).drew) ?_
          simp only [List.take_succ_cons, List.take_zero, List.drop_succ_cons, List.drop_zero]
          (apply turnB_step (by rfl); (intro w' hw'; go_simp; first | exact ⟨hw', rfl⟩ | exact rfl))
          simp only [Act.put, List.setIfInBounds_toArray, List.set_cons_succ, List.set_cons_zero]
          (apply turnB_step (by rfl); (intro w' hw'; go_simp; first | exact ⟨hw', rfl⟩ | exact rfl))
          simp only [Act.put, List.setIfInBounds_toArray, List.set_cons_succ, List.set_cons_zero]
          (apply turnB_step (by rfl); (intro w' hw'; go_simp; first | exact ⟨hw', rfl⟩ | exact rfl))
          simp only [Act.put, List.setIfInBounds_toArray, List.set_cons_succ, List.set_cons_zero]
          (apply turnB_step (by rfl); (intro w' hw'; obtain ⟨q0, q1⟩ := K0.out w' hw'; go_simp; first | exact ⟨hw', rfl⟩ | exact rfl))
          simp only [Act.put, List.setIfInBounds_toArray, List.set_cons_succ, List.set_cons_zero]
          (apply turnB_step (by rfl); (intro w' hw'; go_simp; first | exact ⟨hw', rfl⟩ | exact rfl))
          simp only [Act.put, List.setIfInBounds_toArray, List.set_cons_succ, List.set_cons_zero]
          (apply turnB_step (by rfl); (intro w' hw'; go_simp; first | exact ⟨hw', rfl⟩ | exact rfl))
          simp only [Act.put, List.setIfInBounds_toArray, List.set_cons_succ, List.set_cons_zero]
          (apply turnB_step (by rfl); (intro w' hw'; go_simp; first | exact ⟨hw', rfl⟩ | exact rfl))
          simp only [Act.put, List.setIfInBounds_toArray, List.set_cons_succ, List.set_cons_zero]
          (apply turnB_step (by rfl); (intro w' hw'; obtain ⟨q0, q1⟩ := K0.out w' hw'; go_simp; first | exact ⟨hw', rfl⟩ | exact rfl))
          simp only [Act.put, List.setIfInBounds_toArray, List.set_cons_succ, List.set_cons_zero]
          (apply turnB_step (by rfl); (intro w' hw'; go_simp; first | exact ⟨hw', rfl⟩ | exact rfl))
          simp only [Act.put, List.setIfInBounds_toArray, List.set_cons_succ, List.set_cons_zero]
          (apply turnB_step (by rfl); (intro w' hw'; go_simp; exact CK.out w' hw'))
          simp only [Act.put, List.setIfInBounds_toArray, List.set_cons_succ, List.set_cons_zero]
          (apply turnB_step (by rfl); (intro w' hw'; go_simp; first | exact ⟨hw', rfl⟩ | exact rfl))
          simp only [Act.put, List.setIfInBounds_toArray, List.set_cons_succ, List.set_cons_zero]
          (apply turnB_step (by rfl); (intro w' hw'; go_simp; first | exact ⟨hw', rfl⟩ | exact rfl))
          simp only [Act.put, List.setIfInBounds_toArray, List.set_cons_succ, List.set_cons_zero]
          (apply turnB_step (by rfl); (intro w' hw'; go_simp; first | exact ⟨hw', rfl⟩ | exact rfl))
          simp only [Act.put, List.setIfInBounds_toArray, List.set_cons_succ, List.set_cons_zero]
          (apply turnB_step (by rfl); (intro w' hw'; go_simp; first | exact ⟨hw', rfl⟩ | exact rfl))
          simp only [Act.put, List.setIfInBounds_toArray, List.set_cons_succ, List.set_cons_zero]
          intro listed w4 _ hw4
          have HB4 := Lib.hid (hB2.out.keep hw4)
          obtain ⟨D, hD1, hD2, hD3⟩ := hM.out.kept hw4
          have HD := Lib.hid (And.intro hD2 hD3)
          have HO := Lib.hid hD1
          have hroom : 4 * k + j < maxLen := by unfold maxLen; omega
          have HK := Lib.hid (key_pair (i := k) (j := j) hkj (by omega))
          have HVB := Lib.hid (plainElem_bool (H := Unit) Tryz.underlying4 bb)
          clear hw4 K0 CK hD1 hD2 hD3
          go_wp2_with (at_mapUpdate; refine wpList_mapUpdate_own _ rfl _ _ _ 103 rfl 104 4 lawPair Tryz.underlying103 _ w1.heap.size (4 * k + j) D rfl HO.out hroom _ _ (.string (keyB k j)) rfl rfl HK.out (.lit (.bool bb)) [] HVB.out ?_; intro w5 hown5 hgrow5)
          have HM5 := Lib.hid (PMap.one (w := w4) hkj hjl hl HD.out.1 HD.out.2 (by rw [HBB.out]; exact hown5))
          have HB5 := Lib.hid (HB4.out.map hgrow5 hlt1)
          clear hown5 hgrow5
          go_roundw
          case rel => exact ⟨j + 1, by omega, by omega, by go_num, HM5, HB5⟩
          case measure => simp [intOf]; omega
        · obtain rfl : j = l.length := by omega
          go_wp2_with fail
          go_roundw
          case rel => exact ⟨k + 1, by omega, by go_num, Lib.hid (hM.out.next hkl hl), hB2⟩
          case measure => simp [intOf]; omega
    · obtain rfl : k = l.length := by omega
      obtain ⟨i0, hi0, hz0, hz1, hz2⟩ := info_parts info_int
      obtain ⟨lw1, lw2⟩ := shl_int l.length hl
      obtain ⟨N, hN⟩ : ∃ N, (2 : Nat) ^ l.length = N := ⟨_, rfl⟩
      have hN16 : N ≤ 16 := by
        rw [← hN]
        exact Nat.pow_le_pow_right (by omega) hl
      rw [hN] at lw1 lw2
      have HN := Lib.hid hN
      clear hN hkl hk
      go_wp2_with fail
      go_loopw [11, 12] (fun u i ws => ∃ s : Nat, s ≤ N ∧ i = .int .i64 s ∧ Hid (IRow ws u (bigR (bookC l n) l.length s)) ∧ Hid (PMap ws w1.heap.size (bookC l n) l.length l.length (l.length + 1)) ∧ Hid (LgSt w ws w1.heap.size (bookC l n) l.length)) (fun _ i _ => N - (intOf i).toNat)
      case atStart => exact ⟨0, by omega, rfl, Lib.hid (.inl ⟨rfl, rfl⟩), hM, hB⟩
      case round =>
        clear hM hB
        obtain ⟨s, hs, rfl, hU, hM, hB⟩ := hrel
        by_cases hsl : s < N
        · have hsi : (s : Int) < N := by omega
          obtain ⟨W0, hW0⟩ : ∃ W0, wr = W0 := ⟨_, rfl⟩
          rw [hW0] at hU hM hB
          have HW0 := Lib.hid hW0
          clear hW0
          go_wp2_with fail
          go_loopw [13, 14, 15] (fun u o i ws => ∃ k : Nat, k ≤ l.length ∧ i = .int .i64 k ∧ o = .bool (sepB (bookC l n) (someL k s)) ∧ Hid (ws.ownsRow W0.heap.size 3 1 u (someL k s).length ((someL k s).map encI)) ∧ Hid (Below W0.heap.size W0 ws)) (fun _ _ i _ => l.length - (intOf i).toNat)
          case atStart => exact ⟨0, by omega, rfl, rfl, Lib.hid (World.ownsRow_nil _ _ _ _), Lib.hid (by rw [HW0.out]; exact Below.refl _ _)⟩
          case round =>
            obtain ⟨k, hk, rfl, rfl, hO, hBw⟩ := hrel
            by_cases hkl : k < l.length
            · have hki : (k : Int) < l.length := by omega
              obtain ⟨kw1, kw2⟩ := shl_int k (by omega)
              obtain ⟨p, hp⟩ : ∃ p, (2 : Nat) ^ k = p := ⟨_, rfl⟩
              have hp0 : 0 < p := by rw [← hp]; exact Nat.pow_pos (by omega)
              have hpz : ¬ (p : Int) = 0 := by omega
              rw [hp] at kw1 kw2
              have hq1 := quo_int s p
              have hq2 := rem_int (s / p)
              have HST : Hid (someL (k + 1) s = if s / p % 2 = 0 then someL k s else someL k s ++ [k]) := Lib.hid (by rw [someL_succ, hp])
              have hqb : s / p ≤ 16 := Nat.le_trans (Nat.div_le_self _ _) (by omega)
              obtain ⟨q, hq⟩ : ∃ q, s / p = q := ⟨_, rfl⟩
              rw [hq] at hq1 hq2 HST hqb
              obtain ⟨m, hm⟩ : ∃ m, q % 2 = m := ⟨_, rfl⟩
              have hm2 : m ≤ 1 := by omega
              rw [hm] at hq2 HST
              have hq3 : IntKind.i64.wrap (q : Int) = q := IntWalk.i64_in _ (by omega)
              clear hq hm hp
              by_cases h0 : m = 0
              · have hz : ((m : Int) == 0) = true := by rw [h0]; rfl
                have HS2 := Lib.hid (HST.out.trans (if_pos h0))
                clear h0 HST
                go_wp2_with fail
                go_roundw
                case rel => exact ⟨k + 1, by omega, by go_num, by rw [HS2.out], by rw [HS2.out]; exact hO, hBw⟩
                case measure => simp [intOf]; omega
              · have hz : ((m : Int) == 0) = false := by simp; omega
                have HS2 := Lib.hid (HST.out.trans (if_neg h0))
                clear h0 HST
                obtain ⟨ls, hls⟩ : ∃ ls, someL k s = ls := ⟨_, rfl⟩
                have HLK : Hid (∀ x ∈ ls, x < k) := Lib.hid (fun x hx => someL_lt (by rw [hls]; exact hx))
                have hll : ls.length ≤ 4 := by
                  rw [← hls]
                  exact Nat.le_trans (List.length_filter_le _ _) (by rw [List.length_range]; omega)
                rw [hls] at hO HS2 ⊢
                obtain ⟨av, cpv, hu, hcv⟩ := (IRow.of_own hO.out).form
                subst hu
                have HCV := Lib.hid hcv
                have HSN : Hid (sepB (bookC l n) (ls ++ [k]) = (sepB (bookC l n) ls && ls.all fun t => !bookC l n t k)) := Lib.hid (sep_snoc _ _ _ HLK.out)
                have HM2 := Lib.hid (hM.out.kept (hBw.out))
                obtain ⟨W2, hW2⟩ : ∃ W2, wr = W2 := ⟨_, rfl⟩
                rw [hW2] at hO hBw HCV HM2
                have HW2 := Lib.hid hW2
                clear hls hcv hW2
                go_wp2_with fail
                go_loopw [14, 16] (fun o i ws => ∃ t : Nat, t ≤ ls.length ∧ i = .int .i64 t ∧ o = .bool (sepB (bookC l n) ls && (ls.take t).all fun x => !bookC l n x k) ∧ ws = W2) (fun _ i _ => ls.length - (intOf i).toNat)
                case atStart => exact ⟨0, by omega, rfl, by simp, HW2.out⟩
                case round =>
                  obtain ⟨t, ht, rfl, rfl, hws⟩ := hrel
                  by_cases htl : t < ls.length
                  · obtain ⟨g, rfl, hg, c0⟩ := HCV.out t htl
                    have hti : (t : Int) < ls.length := by omega
                    have ht0 : (0 : Int) ≤ t := by omega
                    rw [← hws] at c0
                    have hx := HLK.out _ (natD_mem htl)
                    have HTK : Hid ((ls.take (t + 1)).all (fun x => !bookC l n x k) = ((ls.take t).all (fun x => !bookC l n x k) && !bookC l n (ls.getD t 0) k)) := Lib.hid (by rw [nat_take_succ htl, List.all_append]; simp)
                    have hlk := HM2.out.look hx hkl hl (.inl (by omega))
                    rw [← hws] at hlk
                    obtain ⟨x, hxx⟩ : ∃ x, ls.getD t 0 = x := ⟨_, rfl⟩
                    rw [hxx] at c0 hlk HTK
                    obtain ⟨cb, hcb⟩ : ∃ cb, bookC l n x k = cb := ⟨_, rfl⟩
                    rw [hcb] at hlk HTK
                    obtain ⟨ob, hob⟩ : ∃ ob, (sepB (bookC l n) ls && (ls.take t).all fun x => !bookC l n x k) = ob := ⟨_, rfl⟩
                    have HNX : Hid ((sepB (bookC l n) ls && (ls.take (t + 1)).all fun x => !bookC l n x k) = (ob && !cb)) := Lib.hid (by rw [HTK.out, ← hob, Bool.and_assoc])
                    rw [hob]
                    have HWS := Lib.hid hws
                    clear hx hxx hcb hob hws HTK
                    cases ob
                    · go_wp2_with fail
                      go_roundw
                      case rel => exact ⟨t + 1, by omega, by go_num, by rw [HNX.out]; rfl, HWS.out⟩
                      case measure => simp [intOf]; omega
                    · go_wp2_with fail
                      go_roundw
                      case rel => exact ⟨t + 1, by omega, by go_num, by rw [HNX.out]; simp, HWS.out⟩
                      case measure => simp [intOf]; omega
                  · obtain rfl : t = ls.length := by omega
                    rw [List.take_length, ← HSN.out, ← HS2.out]
                    rw [← hws] at hO hBw
                    clear hws
                    go_wp2_with (at_builtin; refine wpList_append_own _ rfl _ _ 48 rfl W0.heap.size 3 i0 (.int .i64 0) 1 8 Tryz.underlying48 hi0 hz0 hz1 hz2 rfl (by decide) _ _ _ rfl (hO.out.alloc _) ⟨wr.heap.size, 0, none⟩ 1 1 [.int .i64 k] rfl rfl (cell_one_new _ _ _) (by simp [Value.oneCell']) (by unfold maxLen; omega) (by omega) (by have := hBw.out.size; simp; omega) ?_; intro v' w5 hown5 hgrow5 _)
                    have HB5 : Hid (Below W0.heap.size W0 w5) := Lib.hid (hBw.out.trans (((Below.refl W0.heap.size wr).alloc (by have := hBw.out.size; omega) _).grown hgrow5 (by have := hBw.out.size; simp; omega) (fun j e => (hO.out.lt j e).1)))
                    have HO5 : Hid (w5.ownsRow W0.heap.size 3 1 v' (someL (k + 1) s).length ((someL (k + 1) s).map encI)) := Lib.hid (by rw [HS2.out, List.length_append, List.map_append]; exact hown5)
                    clear hown5 hgrow5
                    go_roundw
                    case rel => exact ⟨k + 1, by omega, by go_num, rfl, HO5, HB5⟩
                    case measure => simp [intOf]; omega
            · obtain rfl : k = l.length := by omega
              have HU2 := Lib.hid (hU.out.keep hBw.out)
              have HM2 := Lib.hid (hM.out.kept hBw.out)
              have HB2 := Lib.hid (hB.out.keep hBw.out)
              have HV2 := Lib.hid (IRow.of_own hO.out)
              have HBS : Hid (bigR (bookC l n) l.length (s + 1) = if (sepB (bookC l n) (someL l.length s) && beforeB (someL l.length s) (bigR (bookC l n) l.length s)) = true then someL l.length s else bigR (bookC l n) l.length s) := Lib.hid rfl
              cases hsb : sepB (bookC l n) (someL l.length s)
              · have HB3 := Lib.hid (HBS.out.trans (if_neg (by rw [hsb]; simp)))
                clear hsb hO hBw
                go_wp2_with fail
                go_roundw
                case rel => exact ⟨s + 1, by omega, by go_num, by rw [HB3.out]; exact HU2, HM2, HB2⟩
                case measure => simp [intOf]; omega
              · have hbl := bigR_len (bookC l n) l.length s
                have hsl2 := someL_len l.length s
                have HBF := Lib.hid (before_any u13 u11 (someL l.length s) (bigR (bookC l n) l.length s) wr HV2.out HU2.out (by omega) (by omega))
                obtain ⟨bb, hbb⟩ : ∃ bb, beforeB (someL l.length s) (bigR (bookC l n) l.length s) = bb := ⟨_, rfl⟩
                rw [hbb] at HBF
                have HB3 : Hid (bigR (bookC l n) l.length (s + 1) = if bb = true then someL l.length s else bigR (bookC l n) l.length s) := Lib.hid (by rw [HBS.out, hsb, hbb, Bool.true_and])
                clear hsb hO hBw hbb HBS
                go_wp2_with fail
                refine HBF.out.mono ?_
                rintro e w5 ⟨rfl, hb5⟩
                have HU3 := Lib.hid (HU2.out.keep hb5)
                have HM3 := Lib.hid (HM2.out.kept hb5)
                have HB4 := Lib.hid (HB2.out.keep hb5)
                have HV3 := Lib.hid (HV2.out.keep hb5)
                clear hb5 HBF
                cases bb
                · go_wp2_with fail
                  go_roundw
                  case rel => exact ⟨s + 1, by omega, by go_num, by rw [HB3.out]; exact HU3, HM3, HB4⟩
                  case measure => simp [intOf]; omega
                · go_wp2_with fail
                  go_roundw
                  case rel => exact ⟨s + 1, by omega, by go_num, by rw [HB3.out]; exact HV3, HM3, HB4⟩
                  case measure => simp [intOf]; omega
        · obtain rfl : s = N := by omega
          obtain ⟨a2, cp2, hu, _⟩ := hU.out.form
          subst hu
          have hc1 := hB.out.res
          have HU2 := Lib.hid (hU.out.far (r := w.heap.size) (fun x => by rw [cell_of_heap hc1]; simp))
          have d0 := cell_of_heap hc1 0
          have d1 := cell_of_heap hc1 1
          have g0 := free_of_heap hc1 0
          have g1 := free_of_heap hc1 1
          simp at d0 d1
          have HB2 := Lib.hid hB.out.below
          clear hc1 hU hB
          go_wp2_with fail
          refine bodyPost_ret (v := .agg #[.slice a2 (bigR (bookC l n) l.length s).length cp2, .int .i64 0]) ?_ rfl ⟨_, rfl, ?_, ?_⟩
          · simp [results, Tryz.results20, go_sem, d0, d1]
          · rw [HN.out]; exact ((HU2.out.setCell 0 _).setCell 1 _).row
          · exact (HB2.out.setCell (p := ⟨w.heap.size, 0, none⟩) (Nat.le_refl _) _).setCell (p := ⟨w.heap.size, 1, none⟩) (Nat.le_refl _) _
end Go.Proofs.YtjhkgfbkpgnodaaGreatDoor
