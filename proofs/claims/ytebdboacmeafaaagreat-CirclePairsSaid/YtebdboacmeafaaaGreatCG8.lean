/- Package circle: the sort of numbers, the closure of Suspects, ContainsFunc. -/
import Derived.Test.YtebdboacmeafaaaGreatCG7
import Derived.Shelf.Lay
import Derived.Shelf.Sort.Plain
import Derived.Shelf.Slices.In.SortNone
set_option linter.unusedVariables false
set_option linter.unusedSimpArgs false
namespace Go.Proofs
shelf_lay Lays.n189 Nm 189 at Tryz as sortI189
end Go.Proofs
namespace Go.Proofs.YtebdboacmeafaaaGreat
open Go Go.RowKit Go.Sort
open Go.Proofs

theorem addI_cons (a : Int) (l : List Int) (p : Int) : addI (a :: l) p = if a < p then a :: addI l p else p :: a :: l := by
  unfold addI atI
  rw [List.takeWhile_cons]
  by_cases h : a < p
  · rw [decide_eq_true h, if_pos h]; simp
  · rw [decide_eq_false h, if_neg h]; simp
theorem addI_perm (l : List Int) (p : Int) : (addI l p).Perm (p :: l) := by
  unfold addI
  refine List.perm_middle.trans ?_
  rw [List.take_append_drop]
theorem addI_sorted {p : Int} : ∀ {l : List Int}, l.Pairwise (· ≤ ·) → (addI l p).Pairwise (· ≤ ·)
  | [], _ => by simp [addI, atI]
  | a :: l, h => by
    obtain ⟨h1, h2⟩ := List.pairwise_cons.1 h
    rw [addI_cons]
    split
    · rename_i hc
      refine List.pairwise_cons.2 ⟨fun x hx => ?_, addI_sorted h2⟩
      rcases List.mem_cons.1 ((addI_perm l p).mem_iff.1 hx) with rfl | hx
      · omega
      · exact h1 x hx
    · rename_i hc
      refine List.pairwise_cons.2 ⟨fun x hx => ?_, h⟩
      rcases List.mem_cons.1 hx with rfl | hx
      · omega
      · have := h1 x hx; omega
/-- The suspects in the order of the checks. -/
def suF (L : List Pi2) (ks : List Ck) (k : Nat) : List Int := ((ks.take k).map Ck.id).filter (susB L)
theorem suF_step {L : List Pi2} {ks : List Ck} {k : Nat} (hk : k < ks.length) : suF L ks (k + 1) = if susB L (ks.getD k .nil).id = true then suF L ks k ++ [(ks.getD k .nil).id] else suF L ks k := by
  unfold suF
  rw [List.take_succ_eq_append_getElem hk, List.map_append, List.filter_append, List.getD_eq_getElem?_getD, List.getElem?_eq_getElem hk]
  simp only [Option.getD_some, List.map_cons, List.map_nil]
  cases h : susB L ks[k].id
  · rw [List.filter_cons, h]; simp
  · rw [List.filter_cons, h]; simp
theorem suF_len (L : List Pi2) (ks : List Ck) (k : Nat) : (suF L ks k).length ≤ k := by
  unfold suF
  refine Nat.le_trans (List.length_filter_le _ _) ?_
  rw [List.length_map, List.length_take]; omega
theorem suR_ok {L : List Pi2} {ks : List Ck} : ∀ k, k ≤ ks.length → (suR L ks k).Perm (suF L ks k) ∧ (suR L ks k).Pairwise (· ≤ ·)
  | 0, _ => ⟨by simp [suR, suF], by simp [suR]⟩
  | k + 1, hk => by
    obtain ⟨h1, h2⟩ := suR_ok (L := L) (ks := ks) k (by omega)
    rw [suF_step (by omega)]
    show (if _ then _ else _ : List Int).Perm _ ∧ (if _ then _ else _ : List Int).Pairwise _
    split
    · exact ⟨(addI_perm _ _).trans (((h1.cons _).trans (List.perm_append_singleton _ _).symm)), addI_sorted h2⟩
    · exact ⟨h1, h2⟩
theorem suR_sort (L : List Pi2) (ks : List Ck) : suR L ks ks.length = (suF L ks ks.length).mergeSort (fun x y => decide (x ≤ y)) := by
  obtain ⟨h1, h2⟩ := suR_ok (L := L) (ks := ks) ks.length (Nat.le_refl _)
  refine List.Perm.eq_of_pairwise (le := (· ≤ ·)) (fun a b _ _ x y => by omega) h2 ?_ (h1.trans (List.mergeSort_perm _ _).symm)
  refine (List.pairwise_mergeSort (le := fun x y : Int => decide (x ≤ y)) ?_ ?_ _).imp (fun h => of_decide_eq_true h)
  · intro a b c x y
    have := of_decide_eq_true x; have := of_decide_eq_true y
    exact decide_eq_true (by omega)
  · intro a b
    rw [Bool.or_eq_true, decide_eq_true_eq, decide_eq_true_eq]; omega
theorem sortI_any (w : World) (B : Nat) (v : Value) (l : List Int) (h : OwI w B v l) (hl : l.length ≤ 100000) :
    Calls Tryz.prog 84 #[v] w fun e w' => e = .returned (.tuple #[]) ∧ OwI w' B v (l.mergeSort fun x y => decide (x ≤ y)) ∧ w.grownBy w' v.ownBlock := by
  have h' := h
  rcases h with ⟨h1, ⟨rfl, h0⟩ | ⟨g, cap, cur, rfl, hB, hg, hnc, hcm, hsz, ht⟩⟩
  · obtain rfl : l = [] := List.eq_nil_of_length_eq_zero h0
    refine Calls.mono (Any.slices_Sort_int_none sortI189 none 0 w) ?_
    rintro e w' ⟨rfl, rfl⟩
    exact ⟨rfl, (by simpa using h'), rfl, rfl, rfl, Nat.le_refl _, fun _ _ _ => rfl⟩
  · have hcur : ∀ j, j < l.length → cur[j]? = some (.int .i64 (l.getD j 0)) := fun j hj => by
      rw [← Array.getElem?_toList]
      have : cur.toList[j]? = (l.map (Value.int .i64))[j]? := by rw [← ht, List.getElem?_take_of_lt (by omega)]
      rw [this, List.getElem?_map, List.getElem?_eq_getElem hj, List.getD_eq_getElem?_getD, List.getElem?_eq_getElem hj]; rfl
    have hH : Holds (Value.int .i64) w g 0 l.toArray := fun j hj => by
      have hj' : j < l.length := by simpa using hj
      rw [Nat.zero_add]
      refine ⟨?_, freeH hg j⟩
      rw [cellH hg j, hcur j hj']
      rw [List.getD_eq_getElem?_getD]; simp [hj']
    refine Calls.mono (Any.slices_Sort_int sortI189 g 0 cap l w hH (Array.getElem?_eq_some_iff.1 hg).1 (by omega)) ?_
    rintro e w' ⟨rfl, n, os, rfl⟩
    obtain ⟨S, hS⟩ : ∃ S, (l.mergeSort fun x y => decide (x ≤ y)) = S := ⟨_, rfl⟩
    have hSl : S.length = l.length := by rw [← hS]; exact List.length_mergeSort _
    rw [hS]
    have hgs := (Array.getElem?_eq_some_iff.1 hg).1
    refine ⟨rfl, ⟨by simp, .inr ⟨g, cap, putCells (Value.int .i64) 0 S.toArray cur, by rw [hSl], hB, ?_, by omega, hcm, by simp [putCells, hsz], ?_⟩⟩, rfl, rfl, rfl, ?_, fun k hk hne => ?_⟩
    · show ((w.heap.modify g _) ++ os)[g]? = _
      rw [Array.getElem?_append_left (by simpa using hgs), Array.getElem?_modify, if_pos rfl, hg]
      rfl
    · apply List.ext_getElem?
      intro j
      by_cases hj : j < S.length
      · rw [List.getElem?_take_of_lt (by omega), Array.getElem?_toList, List.getElem?_map, List.getElem?_eq_getElem hj]
        unfold putCells
        rw [Array.getElem?_mapIdx]
        have hjc : j < cur.size := by omega
        rw [Array.getElem?_eq_getElem hjc]
        simp [hj]
      · rw [List.getElem?_eq_none (by rw [List.length_take]; omega), List.getElem?_eq_none (by simp; omega)]
    · show w.heap.size ≤ ((w.heap.modify g _) ++ os).size
      simp
    · show ((w.heap.modify g _) ++ os)[k]? = w.heap[k]?
      rw [Array.getElem?_append_left (by simpa using hk), Array.getElem?_modify, if_neg (fun e => hne (by rw [← e]; rfl))]
set_option maxRecDepth 100000 in
set_option maxHeartbeats 8000000 in
theorem sus1_any (x y k0 k1 k2 k3 k4 k5 k6 : Int) (db : Nat) (w : World) (hd : w.heap[db]? = some (.cells #[.int .i64 k0, .int .i64 k1, .int .i64 k2, .int .i64 k3, .int .i64 k4, .int .i64 k5, .int .i64 k6] 67 (0, 0))) :
    Calls Tryz.prog 82 #[.agg #[.int .i64 x, .int .i64 y], .pointer (some ⟨db, 0, none⟩)] w fun e w' => e = .returned (.bool (x != k0 && y != k0)) ∧ Below w.heap.size w w' := by
  obtain ⟨x0, xlt, xb⟩ := cells1 w #[.int .i64 x, .int .i64 y] 68 (Below.refl _ _)
  have HNp : Hid ((w.alloc (.cells #[.int .i64 x, .int .i64 y] 68)).heap[w.heap.size]? = some (.cells #[.int .i64 x, .int .i64 y] 68 (0, 0))) := Lib.hid x0
  have HB : Hid (Below w.heap.size w (w.alloc (.cells #[.int .i64 x, .int .i64 y] 68))) := Lib.hid xb
  obtain ⟨Z, hZ⟩ : ∃ Z, (w.alloc (.cells #[.int .i64 x, .int .i64 y] 68)) = Z := ⟨_, rfl⟩
  rw [hZ] at HB HNp
  have HZ := Lib.hid hZ
  clear hZ xlt xb x0
  have HNd := Lib.hid (show Z.heap[db]? = some (.cells #[.int .i64 k0, .int .i64 k1, .int .i64 k2, .int .i64 k3, .int .i64 k4, .int .i64 k5, .int .i64 k6] 67 (0, 0)) from (HB.out.block _ (Array.getElem?_eq_some_iff.1 hd).1).trans hd)
  clear hd
  have zd0 := cellH HNd.out 0
  simp only [List.getElem?_toArray, List.getElem?_cons_zero, List.getElem?_cons_succ] at zd0
  have zp0 := cellH HNp.out 0
  have zp1 := cellH HNp.out 1
  simp only [List.getElem?_toArray, List.getElem?_cons_zero, List.getElem?_cons_succ] at zp0 zp1
  have HZZ := HZ.out
  cases g1 : (x != k0)
  · go_enter Tryz.func82, Tryz.ntmps82
    go_wp2_with fail
    go_ret
    exact ⟨rfl, HB.out⟩
  cases g2 : (y != k0)
  · go_enter Tryz.func82, Tryz.ntmps82
    go_wp2_with fail
    go_ret
    exact ⟨rfl, HB.out⟩
  go_enter Tryz.func82, Tryz.ntmps82
  go_wp2_with fail
  go_ret
  exact ⟨rfl, HB.out⟩
/-- What IndexFunc answers. -/
def IxOut (C : Bool) (w : World) (e : Ending) (w' : World) : Prop := ∃ r : Int, e = .returned (.int .i64 r) ∧ decide (0 ≤ r) = C ∧ Below w.heap.size w w'
set_option maxRecDepth 100000 in
set_option maxHeartbeats 8000000 in
theorem ixf_any (v : Value) (l : List Pi2) (f : Nat) (p : Value) (B : Pi2 → Bool) (w : World) (hv : P2Row w v l) (hl : l.length ≤ 100000) (hf : ∀ args w', (callFunc f args).run Tryz.prog w' = .ok (.enter f args) w')
    (hcall : ∀ w' x, Below w.heap.size w w' → x ∈ l → Calls Tryz.prog f #[.agg #[.int .i64 x.1, .int .i64 x.2], p] w' fun e w'' => e = .returned (.bool (B x)) ∧ Below w'.heap.size w' w'') :
    Calls Tryz.prog 121 #[v, .func (.func f) #[] #[p]] w fun e w' => IxOut (l.any B) w e w' := by
  have HV := Lib.hid hv
  obtain ⟨va, vc, rfl, hc⟩ := hv.form
  have HC := Lib.hid hc
  have HLEN := Lib.hid hl
  have HCALL := Lib.hid hcall
  have HF := Lib.hid hf
  have HB := Lib.hid (Below.refl w.heap.size w)
  clear hc hv hl hcall hf
  go_enter Tryz.func121, Tryz.ntmps121
  go_wp2_with fail
  go_loopw [8] (fun i wr => ∃ (k : Nat), k ≤ l.length ∧ i = .int .i64 k ∧ Hid ((l.drop k).any B = l.any B) ∧ Hid (Below w.heap.size w wr)) (fun i _ => l.length - (intOf i).toNat)
  case atStart => exact ⟨0, Nat.zero_le _, rfl, Lib.hid rfl, HB⟩
  case round =>
    clear HB
    obtain ⟨k, hk, rfl, hN, HB⟩ := hrel
    have hll := HLEN.out
    by_cases hkl : k < l.length
    · obtain ⟨b, off, rfl, hb, f0, f1⟩ := HC.out k hkl
      have e0 := (HB.out.cell (p := ⟨b, _, none⟩) hb).trans f0
      have e1 := (HB.out.cell (p := ⟨b, _, none⟩) hb).trans f1
      have hki : (k : Int) < l.length := by omega
      have hk0 : (0 : Int) ≤ k := by omega
      have HKL := Lib.hid hkl
      have HD : Hid ((l.drop k).any B = (B (l.getD k (0, 0)) || (l.drop (k + 1)).any B)) := Lib.hid (by rw [List.drop_eq_getElem_cons hkl, List.any_cons, List.getD_eq_getElem?_getD, List.getElem?_eq_getElem hkl]; rfl)
      have HCL := Lib.hid (HCALL.out wr (l.getD k (0, 0)) HB.out (by rw [List.getD_eq_getElem?_getD, List.getElem?_eq_getElem hkl]; exact List.getElem_mem _))
      obtain ⟨X, hX⟩ : ∃ X, l.getD k (0, 0) = X := ⟨_, rfl⟩
      rw [hX] at e0 e1 HD HCL
      obtain ⟨x, y⟩ := X
      obtain ⟨BX, hBX⟩ : ∃ X, B (x, y) = X := ⟨_, rfl⟩
      rw [hBX] at HD HCL
      simp only at e0 e1 HCL
      clear hX hb f0 f1 hBX
      have hen := HF.out #[.agg #[.int .i64 x, .int .i64 y], p] wr
      go_wp2_with fail
      refine HCL.out.mono ?_
      rintro e w3 ⟨rfl, hb3⟩
      clear hen e0 e1
      replace HB := Lib.hid (HB.out.trans (hb3.mono HB.out.size))
      clear hb3
      cases BX
      · have HN2 : Hid ((l.drop (k + 1)).any B = l.any B) := Lib.hid (by rw [← hN.out, HD.out]; rfl)
        go_wp2_with fail
        go_roundw
        case rel => exact ⟨k + 1, HKL.out, by go_num, HN2, HB⟩
        case measure => have := HKL.out; simp [intOf]; omega
      · have HN2 : Hid (l.any B = true) := Lib.hid (by rw [← hN.out, HD.out]; rfl)
        go_wp2_with fail
        go_ret
        exact ⟨(k : Int), rfl, by rw [HN2.out]; exact decide_eq_true (by omega), HB.out⟩
    · obtain rfl : k = l.length := by omega
      have HN2 : Hid (l.any B = false) := Lib.hid (by rw [← hN.out, List.drop_length]; rfl)
      go_wp2_with fail
      go_ret
      exact ⟨-1, rfl, by rw [HN2.out]; rfl, HB.out⟩
set_option maxRecDepth 100000 in
set_option maxHeartbeats 8000000 in
theorem ctf_any (v : Value) (l : List Pi2) (f : Nat) (p : Value) (B : Pi2 → Bool) (w : World) (hv : P2Row w v l) (hl : l.length ≤ 100000) (hf : ∀ args w', (callFunc f args).run Tryz.prog w' = .ok (.enter f args) w')
    (hcall : ∀ w' x, Below w.heap.size w w' → x ∈ l → Calls Tryz.prog f #[.agg #[.int .i64 x.1, .int .i64 x.2], p] w' fun e w'' => e = .returned (.bool (B x)) ∧ Below w'.heap.size w' w'') :
    Calls Tryz.prog 83 #[v, .func (.func f) #[] #[p]] w fun e w' => e = .returned (.bool (l.any B)) ∧ Below w.heap.size w w' := by
  have HX := Lib.hid (ixf_any v l f p B w hv hl hf hcall)
  unfold IxOut at HX
  obtain ⟨C, hC⟩ : ∃ C, l.any B = C := ⟨_, rfl⟩
  rw [hC] at HX ⊢
  clear hC hv hl hf hcall
  go_enter Tryz.func83, Tryz.ntmps83
  go_wp2_with fail
  refine HX.out.mono ?_
  rintro e w3 ⟨r, rfl, hr, hb3⟩
  have HB := Lib.hid hb3
  have HR := Lib.hid hr
  clear hr hb3
  go_wp2_with fail
  go_ret
  exact ⟨by rw [← HR.out]; rfl, HB.out⟩
end Go.Proofs.YtebdboacmeafaaaGreat
