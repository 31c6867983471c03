/- Readings of the reference: its sets. -/
import Derived.Test.YtjbdmlpadoiicaaGreatDoorZ0
import Derived.Test.YtjbdmlpadoiicaaGreatDoorW5
import Derived.Test.YtjbdmlpadoiicaaGreatDoorP7
import Derived.Test.YtjbdmlpadoiicaaGreatDoorV1
set_option linter.unusedVariables false
set_option linter.unusedSimpArgs false
namespace Go.Proofs.YtjbdmlpadoiicaaGreatDoor
open Go.RowKit Go.Shelf

/-- An element of a map's own text. -/
theorem wpList_insert_own {H : Type} {P : Program} (w : World) {ops : Array Oper} {rest : List Oper} {o : Oper} {a : Act} {Q : Exit → Act → World → Prop}
    (hg : o.guard = none) (m x v : Operand) (t : TypeId) (hop : o.op = Op.insert t m x v)
    (k e : TypeId) (K : Maps.Keyed P k) (ht : P.underlying t = some (.map k e)) (R : Value → Option (DataW H × List MemPlace)) (b n : Nat) (D : DataW H)
    (hm : a.eval m = .map (some b)) (hown : w.ownsMap P k R b n D) (hn : n < maxLen) (key val : Value) (kl : Lit) (hx : a.eval x = key) (hv : a.eval v = val) (hkey : keyOf P k key = some kl)
    (d : DataW H) (ps : List MemPlace) (hval : R val = some (d, ps))
    (hK : ∀ w', w'.ownsMap P k R b (n + 1) (D.put kl d) → w.grownBy w' (some b) → wpList P ops Q rest (a.put o.dst undef) w') :
    wpList P ops Q (o :: rest) a w := by
  refine wpList_plain hg fun K' hK' => ?_
  obtain ⟨w', hrun, r1, r2⟩ := hown.update K ht hn hkey hval
  unfold Oper.wp
  simp [execOp, hop, hm, hx, hv, hrun, Result.andThen]
  exact hK' _ _ (hK w' r1 r2)

theorem merged_nil (w : World) : Calls Tryz.prog 80 #[.slice none 0 0] w fun e w' => e = .returned (.slice none 0 0) ∧ w = w' := by
  go_enter Tryz.func80, Tryz.ntmps80
  go_wp2_with fail
  go_ret
  exact ⟨rfl, rfl⟩
set_option maxRecDepth 100000 in
theorem sorted_nil (b : Nat) (w : World) (hS : SetAt w b []) :
    Calls Tryz.prog 43 #[.map (some b)] w fun e w' => e = .returned (.slice none 0 0) ∧ Below w.heap.size w w' := by
  have hown : w.ownsMap Tryz.prog 9 (plainElem (H := Unit) Tryz.prog 4) b 0 (setD []) := hS
  clear hS
  go_enter Tryz.func43, Tryz.ntmps43
  go_wp2_with (first
    | (at_range; refine wpList_range_own _ rfl _ 59 rfl 9 4 lawStr Tryz.underlying59 _ b 0 _ rfl hown ?_; intro w0 hrg0 hg0 hs0)
    | go_in)
  go_frame
  have hb0 : Below w.heap.size w w0 := (Below.refl _ _).grown hg0 (Nat.le_refl _) (fun k e => by cases e)
  go_loopw [3] (fun v wr => v = .slice none 0 0 ∧ wr = w0) (fun _ wr => 1)
  case atStart => exact ⟨rfl, rfl⟩
  case round =>
    obtain ⟨rfl, rfl⟩ := hrel
    go_wp2_with (first
      | (at_next; refine wpList_next_set _ rfl _ rfl b w.heap.size 0 _ _ _ rfl hrg0 ?_ ?_)
      | go_in)
    · intro hc0 hl0
      clear hl0
      go_wp2_with fail
      refine (merged_nil _).mono ?_
      rintro e w' ⟨rfl, rfl⟩
      go_wp2_with fail
      go_ret
      exact ⟨rfl, hb0⟩
    · intro x cv w1 cnt1 hlk hrg1 hlt hg1 hs1 hen
      have := (has_set [] x).1 hlk
      simp at this
theorem sorted_all (b : Nat) (S : List (List UInt8)) (hSl : S.length ≤ 1000000) (w : World) (hS : SetAt w b S) :
    Calls Tryz.prog 43 #[.map (some b)] w fun e w' => ∃ v ys, e = .returned v ∧ SRow w' v ys ∧ Strict ys ∧ (∀ x, x ∈ ys ↔ x ∈ S) ∧ ys.length ≤ 1000000 ∧ Below w.heap.size w w' := by
  by_cases h : S = []
  · subst h
    refine (sorted_nil b w hS).mono ?_
    rintro e w' ⟨rfl, hb⟩
    exact ⟨_, [], rfl, .inl ⟨none, 0, rfl, rfl⟩, .nil, fun x => Iff.rfl, by simp, hb⟩
  · refine (sorted_any b S h hSl w hS).mono ?_
    rintro e w' ⟨v, ys, rfl, h1, h2, h3, h4, h5⟩
    exact ⟨v, ys, rfl, h1.srow, h2, h3, h4, h5⟩
/-- What Read answers: the only word whose signal this is, or an error. -/
theorem read_two (x : List UInt8) : (∃ y, wordB y = true ∧ signalL y = x ∧ readV x = .tuple #[.string (B y), .int .i64 0]) ∨ ((∀ y, wordB y = true → signalL y ≠ x) ∧ ∃ (p : ByteArray) (e : Int), e ≠ 0 ∧ readV x = .tuple #[.string p, .int .i64 e]) := by
  rcases read_cases x with h | ⟨p, e, he, hr⟩
  · exact .inl h
  · refine .inr ⟨fun y hy hs => ?_, p, e, he, hr⟩
    subst hs
    rw [read_signal hy] at hr
    simp only [Value.tuple.injEq] at hr
    have := congrArg (fun a => a[1]?) hr
    simp at this
    exact he this.symm
theorem signal_inj {x y : List UInt8} (hx : wordB x = true) (hy : wordB y = true) (h : signalL x = signalL y) : x = y := by
  have h1 := letters_signal hx
  rw [h, letters_signal hy] at h1
  exact (Option.some.inj h1).symm

/-- The words with so many faults, and those with fewer than so many. -/
def refK (r : List UInt8) (n : Nat) (l : List (List UInt8)) : List (List UInt8 × Int) := (l.filter fun x => decide (eT (signalL x) r 0 0 = (n : Int))).map fun x => (x, (n : Int))
def refL (r : List UInt8) (ys : List (List UInt8)) (n : Nat) : List (List UInt8 × Int) := (List.range n).flatMap fun j => refK r j ys
theorem refL_succ (r : List UInt8) (ys : List (List UInt8)) (n : Nat) : refL r ys (n + 1) = refL r ys n ++ refK r n ys := by simp [refL, List.range_succ]
theorem take_getD (l : List (List UInt8)) (k : Nat) (h : k < l.length) : l.take (k + 1) = l.take k ++ [l.getD k []] := by
  rw [List.take_succ_eq_append_getElem h, List.getD_eq_getElem?_getD, List.getElem?_eq_getElem h]; rfl
theorem refK_yes {r : List UInt8} {n k : Nat} {l : List (List UInt8)} (h : k < l.length) (e : eT (signalL (l.getD k [])) r 0 0 = (n : Int)) : refK r n (l.take (k + 1)) = refK r n (l.take k) ++ [(l.getD k [], (n : Int))] := by
  unfold refK
  rw [take_getD l k h, List.filter_append, List.map_append, List.filter_cons, decide_eq_true e]; rfl
theorem refK_no {r : List UInt8} {n k : Nat} {l : List (List UInt8)} (h : k < l.length) (e : eT (signalL (l.getD k [])) r 0 0 ≠ (n : Int)) : refK r n (l.take (k + 1)) = refK r n (l.take k) := by
  unfold refK
  rw [take_getD l k h, List.filter_append, List.map_append, List.filter_cons, decide_eq_false e]; simp
theorem refK_len (r : List UInt8) (n : Nat) (l : List (List UInt8)) : (refK r n l).length ≤ l.length := by unfold refK; rw [List.length_map]; exact List.length_filter_le _ _
theorem refL_len (r : List UInt8) (ys : List (List UInt8)) : ∀ n : Nat, (refL r ys n).length ≤ n * ys.length
  | 0 => by simp [refL]
  | n + 1 => by
    rw [refL_succ, List.length_append, Nat.succ_mul]
    have := refL_len r ys n
    have := refK_len r n ys
    omega
/-- How a word with a number lies in a row. -/
def encP (p : List UInt8 × Int) : List Value := [.string (B p.1), .int .i64 p.2]
def PRow (w : World) (v : Value) (l : List (List UInt8 × Int)) : Prop :=
  (v = .slice none 0 0 ∧ l = []) ∨ ∃ b cap, v = .slice (some ⟨b, 0, none⟩) l.length cap ∧ l.length ≤ cap ∧ b < w.heap.size ∧
    ∀ k, k < l.length → w.cell? ⟨b, 2 * k, none⟩ = some (.string (B (l.getD k ([], 0)).1)) ∧ w.cell? ⟨b, 2 * k + 1, none⟩ = some (.int .i64 (l.getD k ([], 0)).2)
theorem encP_get : ∀ (l : List (List UInt8 × Int)) (k : Nat), k < l.length → (l.flatMap encP)[2 * k]? = some (.string (B (l.getD k ([], 0)).1)) ∧ (l.flatMap encP)[2 * k + 1]? = some (.int .i64 (l.getD k ([], 0)).2)
  | [], k, h => by simp at h
  | p :: l, 0, _ => by simp [encP]
  | p :: l, k + 1, h => by
    have := encP_get l k (by simpa using h)
    rw [List.flatMap_cons]
    have e1 : 2 * (k + 1) = 2 + 2 * k := by omega
    have e2 : 2 * (k + 1) + 1 = 2 + (2 * k + 1) := by omega
    rw [e1, show 2 + 2 * k + 1 = 2 + (2 * k + 1) by omega, List.getElem?_append_right (by simp [encP]), List.getElem?_append_right (by simp [encP])]
    simpa [encP] using this
theorem PRow.of_own {w : World} {base : Nat} {v : Value} {l : List (List UInt8 × Int)} (h : w.ownsRow base 61 2 v l.length (l.flatMap encP)) : PRow w v l := by
  rcases h.2 with ⟨h0, hn⟩ | ⟨g, cap, cur, hv, hg, hb, hn, hm, hs, ht⟩
  · exact .inl ⟨h0, List.eq_nil_of_length_eq_zero hn⟩
  · refine .inr ⟨g, cap, hv, hn, (Array.getElem?_eq_some_iff.1 hb).1, fun k hk => ?_⟩
    have h1 := encP_get l k hk
    rw [← ht, List.getElem?_take_of_lt (by omega), List.getElem?_take_of_lt (by omega), Array.getElem?_toList, Array.getElem?_toList] at h1
    rw [cell_of_heap hb, cell_of_heap hb]
    exact h1
theorem info_sent : (Tryz.prog.info? 61).map (fun i => (i.zero, i.size, i.bytes)) = some (some (.agg #[.string ⟨#[]⟩, .int .i64 0]), 2, 24) := by kernel_rfl

theorem flat_card : ∀ zs : List (List UInt8), (∀ z ∈ zs, z.length ≤ 102) → (zs.flatMap undoneL).length ≤ zs.length * 516
  | [], _ => by simp
  | z :: zs, h => by
    have h1 := flat_card zs (fun y hy => h y (List.mem_cons_of_mem _ hy))
    have h2 := undoneK_card z (z.length + 1)
    have h3 := h z List.mem_cons_self
    rw [List.flatMap_cons, List.length_append, List.length_cons]
    unfold undoneL at h1 ⊢
    omega

set_option maxRecDepth 100000 in
set_option maxHeartbeats 4000000 in
theorem rReadings_ok (r : List UInt8) (m : Nat) (hm : m ≤ 2) (hf : flashE r 100 = 0) (w : World) :
    Calls Tryz.prog 9 #[.string (B r), .int .i64 m] w fun e w' => ∃ v ys, e = .returned (.agg #[v, .int .i64 0]) ∧ PRow w' v (refL r ys (m + 1)) ∧ Strict ys ∧ (∀ y, y ∈ ys ↔ wordB y = true ∧ Und r m (signalL y)) ∧ ys.length ≤ 1000000 ∧ Below w.heap.size w w' := by
  have hr : r.length ≤ 100 := by have := flashE_le hf; omega
  have HFl := Lib.hid (rflashes_any (B r) 100 (w.alloc (.cells #[.slice none 0 0, .int .i64 0] 28)) (by rw [size_B]; unfold maxLen; omega))
  rw [L_B, hf] at HFl
  have HFw := Lib.hid (fun w => rfew_any (m : Int) w)
  have hfw : faultsE (m : Int) = 0 := by unfold faultsE; rw [if_neg (by omega)]
  rw [hfw] at HFw
  have hmm := @run_makeMap Tryz.prog
  clear hf hfw
  have hval : plainElem (H := Unit) Tryz.prog 4 (.bool true) = some (.lit (.bool true), []) := plainElem_bool Tryz.underlying4 true
  have hkey : keyOf Tryz.prog 9 (.string (B r)) = some (.string r) := by
    have := WideMaps.keyOf_string_mk Tryz.underlying9 (s := B r) (by rw [size_B]; unfold maxLen; omega)
    rw [L_B] at this; exact this
  have HV := Lib.hid hval; have HK := Lib.hid hkey
  clear hval hkey
  go_enter Tryz.func9, Tryz.ntmps9
  go_wp2_with fail
  refine HFl.out.mono ?_
  rintro e w1 ⟨rfl, rfl⟩
  go_wp2_with fail
  refine (HFw.out _).mono ?_
  rintro e w1 ⟨rfl, rfl⟩
  have hs0 : SetAt ((w.alloc (.cells #[.slice none 0 0, .int .i64 0] 28)).alloc (.map #[] 0)) (w.heap.size + 1) [] := by
    have := World.ownsMap_made (w.alloc (.cells #[.slice none 0 0, .int .i64 0] 28)) Tryz.prog 9 (plainElem (H := Unit) Tryz.prog 4)
    rw [World.size_alloc] at this
    exact this
  have HS0 := Lib.hid hs0
  clear hs0
  go_wp2_with (refine wpList_insert_own _ rfl _ _ _ 59 rfl 9 4 lawStr Tryz.underlying59 _ (w.heap.size + 1) 0 (setD []) rfl HS0.out (by decide) _ _ (.string r) rfl rfl HK.out (.lit (.bool true)) [] HV.out ?_; intro w2 hown hgrow)
  have HS1 : Hid (SetAt w2 (w.heap.size + 1) [r]) := Lib.hid (SetAt.of (S := []) hown)
  have hR2 : w2.heap[w.heap.size]? = some (.cells #[.slice none 0 0, .int .i64 0] 28 (0, 0)) := by
    rw [hgrow.block w.heap.size (by simp; omega) (by simp)]
    exact (heap_alloc_old' _ _ _ (by simp)).trans (heap_alloc_new w _)
  have HB2 : Hid (Below (w.heap.size + 1) (w.alloc (.cells #[.slice none 0 0, .int .i64 0] 28)) w2) := Lib.hid (by
    exact ((Below.refl _ _).alloc (by simp) _).grown hgrow (by simp) (fun k e => by cases e; exact Nat.le_refl _))
  have HB0 : Hid (Below w.heap.size w w2) := Lib.hid (((Below.refl _ w).alloc (Nat.le_refl _) _).trans (HB2.out.mono (by omega)))
  have HR2 := Lib.hid hR2
  have HZ2 : Hid (w.heap.size + 2 ≤ w2.heap.size) := Lib.hid (by have := hgrow.size; simp at this; omega)
  clear hown hgrow hR2 hmm HS0 HFl HFw HB2
  go_loopw [6, 7, 8, 9] (fun v6 v7 _ _ wr => ∃ (i b : Nat) (S : List (List UInt8)), i ≤ m ∧ v7 = .int .i64 i ∧ v6 = .map (some b) ∧ w.heap.size < b ∧ Hid (SetAt wr b S) ∧ Hid (∀ x, x ∈ S ↔ Und r i x) ∧ Hid (∀ x ∈ S, x.length ≤ 100 + i) ∧ S.length ≤ 516 ^ i ∧ Hid (Below (w.heap.size + 1) w2 wr)) (fun _ v7 _ _ _ => m - (intOf v7).toNat)
  case atStart => exact ⟨0, _, [r], by omega, rfl, rfl, by omega, HS1, Lib.hid (fun x => by simp [Und]), Lib.hid (fun x hx => by rw [List.mem_singleton.1 hx]; omega), by simp, Lib.hid (Below.refl _ _)⟩
  case round =>
    obtain ⟨i, b, S, hi, rfl, rfl, hb, hS, hU, hX, hc, hB⟩ := hrel
    by_cases hlt : i < m
    · have hmm := @run_makeMap Tryz.prog
      have hlt' : (i : Int) < m := by omega
      have hown : wr.ownsMap Tryz.prog 9 (plainElem (H := Unit) Tryz.prog 4) b S.length (setD S) := hS.out
      have hown1 := hown.alloc (.map #[] 0)
      have hbw : b < wr.heap.size := hown.lt
      have HSZ := Lib.hid hown.size_le
      have HO1 := Lib.hid hown1
      have hm0 : SetAt (wr.alloc (.map #[] 0)) wr.heap.size [] := World.ownsMap_made wr Tryz.prog 9 (plainElem (H := Unit) Tryz.prog 4)
      have HM0 := Lib.hid hm0
      clear hown hown1 hm0
      go_wp2_with (first
        | (at_range; refine wpList_range_own _ rfl _ 59 rfl 9 4 lawStr Tryz.underlying59 _ b S.length _ rfl HO1.out ?_; intro w0 hrg0 hg0 hs0)
        | go_in)
      go_frame
      simp only [World.size_alloc]
      rw [World.size_alloc] at hrg0 hs0
      obtain ⟨Q, hQ⟩ : ∃ Q, wr.heap.size = Q := ⟨_, rfl⟩
      have hb0 : Below Q wr w0 := ((Below.refl _ _).alloc (by omega) _).trans ((Below.refl _ _).grown hg0 (by simp; omega) (fun k e => by cases e))
      have hm1 : SetAt w0 Q [] := by
        have := HM0.out
        rw [hQ] at this
        exact World.ownsMap.kept this hg0 (by simp)
      rw [hQ] at hrg0 hs0 hbw ⊢
      have hcl : S.length ≤ 516 := by
        have : 516 ^ i ≤ 516 ^ 1 := Nat.pow_le_pow_right (by omega) (by omega)
        omega
      have HQ := Lib.hid hQ
      clear hQ HM0 HO1 hmm hg0
      go_loopw [9] (fun _ wj => ∃ (left : Lit → Bool) (cnt : Nat) (zs : List (List UInt8)), wj.ranges Tryz.prog 9 (plainElem (H := Unit) Tryz.prog 4) b (Q + 1) S.length (setD S) left cnt ∧
          Hid (SetAt wj Q (zs.flatMap undoneL)) ∧ Hid (Come S left zs) ∧ zs.length + cnt ≤ S.length ∧ Hid (Below Q wr wj))
        (fun _ wj => wj.rangeLeft b (Q + 1))
      case atStart => exact ⟨_, _, [], hrg0, Lib.hid hm1, Lib.hid (Come.start S), by simpa using HSZ.out, Lib.hid hb0⟩
      case round =>
        obtain ⟨left, cnt, zs, hrg, hM, hC, hlen, hBj⟩ := hrel
        go_wp2_with (first
          | (at_next; refine wpList_next_set _ rfl _ rfl b (Q + 1) S.length _ _ _ rfl hrg ?_ ?_)
          | go_in)
        · intro hc0 hl0
          have hfin := hC.out.fin hl0
          have hz1 : ∀ z ∈ zs, z.length ≤ 102 := fun z hz => by have := hX.out z ((hfin z).1 hz); omega
          have hcard := flat_card zs hz1
          have HU1 : Hid (∀ x, x ∈ zs.flatMap undoneL ↔ Und r (i + 1) x) := Lib.hid (fun x => by
            rw [List.mem_flatMap]
            exact ⟨fun ⟨y, hy, hx⟩ => ⟨y, (hU.out y).1 ((hfin y).1 hy), hx⟩, fun ⟨y, hy, hx⟩ => ⟨y, (hfin y).2 ((hU.out y).2 hy), hx⟩⟩)
          have HX1 : Hid (∀ x ∈ zs.flatMap undoneL, x.length ≤ 100 + (i + 1)) := Lib.hid (fun x hx => by
            obtain ⟨y, hy, hx⟩ := List.mem_flatMap.1 hx
            have := hX.out y ((hfin y).1 hy)
            have := undoneL_len hx
            omega)
          have HC1 : Hid ((zs.flatMap undoneL).length ≤ 516 ^ (i + 1)) := Lib.hid (by
            rw [Nat.pow_succ]
            have : zs.length * 516 ≤ 516 ^ i * 516 := Nat.mul_le_mul_right _ (by omega)
            omega)
          clear hfin hz1 hcard hrg hl0 hC
          go_wp2_with fail
          go_roundw
          case rel => exact ⟨i + 1, Q, zs.flatMap undoneL, by omega, by go_num, rfl, by omega, hM, HU1, HX1, HC1.out, Lib.hid (hB.out.trans (hBj.out.mono (by have := hB.out.size; have := HZ2.out; have := HQ.out; omega)))⟩
          case measure => simp [intOf]; omega
        · intro x cv w1' cnt1 hlk hrg1 hlt1 hg1 hs1 hen
          have hm0 : wr.rangeLeft b (Q + 1) = cnt := hrg.left_eq
          have hxS : x ∈ S := hC.out.2.2 x hlk
          have hxl : x.length ≤ 102 := by have := hX.out x hxS; omega
          have hzS : ∀ z ∈ zs, z.length ≤ 102 := fun z hz => by have := hX.out z ((hC.out.2.1 z).1 hz).1; omega
          have hcz := flat_card zs hzS
          have hM1 : SetAt w1' Q (zs.flatMap undoneL) := World.ownsMap.kept hM.out hg1 (by simp)
          have hcx := undoneK_card x (x.length + 1)
          have HUn := Lib.hid (undone_any x (by omega) Q (zs.flatMap undoneL) w1' hM1 (by unfold undoneL at hcz ⊢; omega))
          have HC1 := Lib.hid (hC.out.step hlk)
          have HRG1 := Lib.hid hrg1
          have HB1 := Lib.hid (hBj.out.grown hg1 (by have := hBj.out.size; have := HQ.out; omega) (fun k e => by cases e; omega))
          have HM0 := Lib.hid hm0
          clear hrg hrg1 hM hM1 hC hBj hlk hg1 hxS hxl hzS hcz hcx hm0
          go_wp2_with fail
          refine HUn.out.mono ?_
          rintro e w3 ⟨rfl, hM3, hg3⟩
          have hrg3 := HRG1.out.kept hg3 (by simp; omega) (by simp)
          have HM3 := Lib.hid hM3
          have HB3 := Lib.hid (HB1.out.grown hg3 (by have := HB1.out.size; have := HQ.out; omega) (fun k e => by cases e; omega))
          clear hM3 hg3
          go_wp2_with fail
          go_roundw
          case rel => exact ⟨_, cnt1, zs ++ [x], hrg3, Lib.hid (by rw [List.flatMap_append]; simpa using HM3.out), HC1, by simp; omega, HB3⟩
          case measure => rw [hrg3.left_eq, HM0.out]; exact hlt1
    · obtain rfl : i = m := by omega
      have hmm := @run_makeMap Tryz.prog
      have hsl : S.length ≤ 300000 := by
        have : 516 ^ i ≤ 516 ^ 2 := Nat.pow_le_pow_right (by omega) (by omega)
        omega
      have hown : wr.ownsMap Tryz.prog 9 (plainElem (H := Unit) Tryz.prog 4) b S.length (setD S) := hS.out
      have hown1 := hown.alloc (.map #[] 0)
      have hbw : b < wr.heap.size := hown.lt
      have HSZ := Lib.hid hown.size_le
      have HO1 := Lib.hid hown1
      have hm0 : SetAt (wr.alloc (.map #[] 0)) wr.heap.size [] := World.ownsMap_made wr Tryz.prog 9 (plainElem (H := Unit) Tryz.prog 4)
      have HM0 := Lib.hid hm0
      clear hown hown1 hm0 hlt hi
      go_wp2_with (first
        | (at_range; refine wpList_range_own _ rfl _ 59 rfl 9 4 lawStr Tryz.underlying59 _ b S.length _ rfl HO1.out ?_; intro w0 hrg0 hg0 hs0)
        | go_in)
      go_frame
      simp only [World.size_alloc]
      rw [World.size_alloc] at hrg0 hs0
      obtain ⟨Q, hQ⟩ : ∃ Q, wr.heap.size = Q := ⟨_, rfl⟩
      have hb0 : Below Q wr w0 := ((Below.refl _ _).alloc (by omega) _).trans ((Below.refl _ _).grown hg0 (by simp; omega) (fun k e => by cases e))
      have hm1 : SetAt w0 Q [] := by
        have := HM0.out
        rw [hQ] at this
        exact World.ownsMap.kept this hg0 (by simp)
      rw [hQ] at hrg0 hs0 hbw ⊢
      have HQ := Lib.hid hQ
      clear hQ HM0 HO1 hmm hg0
      go_loopw [11, 12, 13] (fun _ _ _ wj => ∃ (left : Lit → Bool) (cnt : Nat) (zs W : List (List UInt8)), wj.ranges Tryz.prog 9 (plainElem (H := Unit) Tryz.prog 4) b (Q + 1) S.length (setD S) left cnt ∧
          Hid (SetAt wj Q W) ∧ Hid (∀ y, y ∈ W ↔ wordB y = true ∧ signalL y ∈ zs) ∧ W.length ≤ zs.length ∧ Hid (Come S left zs) ∧ zs.length + cnt ≤ S.length ∧ Hid (Below Q wr wj))
        (fun _ _ _ wj => wj.rangeLeft b (Q + 1))
      case atStart => exact ⟨_, _, [], [], hrg0, Lib.hid hm1, Lib.hid (fun y => by simp), by simp, Lib.hid (Come.start S), by simpa using HSZ.out, Lib.hid hb0⟩
      case round =>
        obtain ⟨left, cnt, zs, W, hrg, hM, hW, hWl, hC, hlen, hBj⟩ := hrel
        go_wp2_with (first
          | (at_next; refine wpList_next_set _ rfl _ rfl b (Q + 1) S.length _ _ _ rfl hrg ?_ ?_)
          | go_in)
        · intro hc0 hl0
          have hfin := hC.out.fin hl0
          have HW1 : Hid (∀ y, y ∈ W ↔ wordB y = true ∧ Und r i (signalL y)) := Lib.hid (fun y => by rw [hW.out, hfin, hU.out])
          have HSo := Lib.hid (sorted_all Q W (by omega) _ hM.out)
          clear hfin hrg hl0 hC
          go_wp2_with fail
          refine HSo.out.mono ?_
          rintro e w4 ⟨v, ys, rfl, hT, hst, hmem, hyl, hb4⟩
          have HT := Lib.hid hT; have HST := Lib.hid hst
          have HY : Hid (∀ y, y ∈ ys ↔ wordB y = true ∧ Und r i (signalL y)) := Lib.hid (fun y => by rw [hmem, HW1.out])
          have HB4 := Lib.hid hb4
          clear hT hst hmem hb4
          obtain ⟨va, vc, ev, hvc⟩ := HT.out.form
          obtain ⟨i0, hi0, hz0, hz1, hz2⟩ := info_parts info_sent
          have HVC := Lib.hid hvc; have HEV := Lib.hid ev
          subst ev
          clear hvc
          go_wp2_with fail
          go_loopw [15, 16, 17, 18, 19] (fun o n16 _ _ _ wj => ∃ (n : Nat) (L : List (List UInt8 × Int)), n ≤ i + 1 ∧ n16 = .int .i64 n ∧ Hid (L = refL r ys n) ∧ Hid (L.length ≤ 3000000) ∧ wj.ownsRow w4.heap.size 61 2 o L.length (L.flatMap encP) ∧ Hid (Below w4.heap.size w4 wj)) (fun _ n16 _ _ _ _ => i + 2 - (intOf n16).toNat)
          case atStart => exact ⟨0, [], by omega, rfl, Lib.hid rfl, Lib.hid (by simp), World.ownsRow_nil _ _ _ _, Lib.hid (Below.refl _ _)⟩
          case round =>
            obtain ⟨n, L, hn, rfl, hL, hLl, hrow, hB5⟩ := hrel
            by_cases hnlt : n ≤ i
            · have hni : (n : Int) ≤ (i : Int) := by omega
              go_wp2_with fail
              go_loopw [15, 17, 18, 19] (fun o k17 _ _ wj => ∃ (k : Nat) (L : List (List UInt8 × Int)), k ≤ ys.length ∧ k17 = .int .i64 k ∧ Hid (L = refL r ys n ++ refK r n (ys.take k)) ∧ wj.ownsRow w4.heap.size 61 2 o L.length (L.flatMap encP) ∧ Hid (Below w4.heap.size w4 wj)) (fun _ k17 _ _ _ => ys.length - (intOf k17).toNat)
              case atStart => exact ⟨0, L, by omega, rfl, Lib.hid (by rw [hL.out]; simp [refK]), hrow, hB5⟩
              case round =>
                clear hrow hL hLl hB5
                obtain ⟨k, L, hk, rfl, hL, hrow, hB5⟩ := hrel
                by_cases hkl : k < ys.length
                · obtain ⟨vb, vo, rfl, hvb, hvcell⟩ := HVC.out k hkl
                  have hvc5 : wr.cell? ⟨vb, vo + k, none⟩ = some (.string (B (ys.getD k []))) := (hB5.out.cell (p := ⟨vb, vo + k, none⟩) hvb).trans hvcell
                  have hmk : ys.getD k [] ∈ ys := by rw [List.getD_eq_getElem?_getD, List.getElem?_eq_getElem hkl]; exact List.getElem_mem _
                  have hyw := ((HY.out _).1 hmk).1
                  have hyes := fun e => refK_yes (r := r) (n := n) hkl e
                  have hno := fun e => refK_no (r := r) (n := n) hkl e
                  obtain ⟨y, ey⟩ : ∃ y, ys.getD k [] = y := ⟨_, rfl⟩
                  rw [ey] at hvc5 hyw hyes hno
                  have hyl2 := (word_parts hyw).2.1
                  have hki : (k : Int) < ys.length := by omega
                  have HSig := Lib.hid (fun w => rsignal_any (B y) w (by rw [size_B]; unfold maxLen; omega))
                  rw [L_B, signalV, if_pos hyw] at HSig
                  have hss := signal_short hyw
                  have HFa := Lib.hid (fun w => rFaults_any (signalL y) r w hss hr)
                  obtain ⟨q, eq⟩ : ∃ q, eT (signalL y) r 0 0 = q := ⟨_, rfl⟩
                  rw [eq] at HFa hyes hno
                  have HY1 := Lib.hid hyes; have HN1 := Lib.hid hno
                  have HB5 := Lib.hid hB5.out
                  have HRow := Lib.hid hrow
                  have HLL : Hid (L.length ≤ 3000000) := Lib.hid (by
                    rw [hL.out, List.length_append]
                    have h1 := refL_len r ys n
                    have h2 := refK_len r n (ys.take k)
                    have h3 : n * ys.length ≤ 2 * ys.length := Nat.mul_le_mul_right _ (by omega)
                    rw [List.length_take] at h2
                    omega)
                  clear hvb hvcell hmk hyw hyes hno ey eq hss hyl2
                  go_wp2_with fail
                  refine (HSig.out _).mono ?_
                  rintro e w6 ⟨rfl, hb6⟩
                  have HB6 := Lib.hid hb6
                  clear hb6
                  go_wp2_with fail
                  refine (HFa.out _).mono ?_
                  rintro e w7 ⟨rfl, hb7⟩
                  have hb67 : Below wr.heap.size wr w7 := HB6.out.trans (hb7.mono HB6.out.size)
                  have hrow7 := (HRow.out.kept (w' := w7) (row := none) ⟨hb67.os, hb67.tape, hb67.output, hb67.size, fun k hk _ => hb67.block k hk⟩ (by
                    rcases HRow.out.2 with ⟨h, _⟩ | ⟨g, cap, cur, h, _⟩
                    · left; rw [h]; rfl
                    · right; rw [h]; simp [Value.ownBlock]))
                  have HB7 := Lib.hid (HB5.out.trans (hb67.mono HB5.out.size))
                  have hvc7 : w7.cell? ⟨vb, vo + k, none⟩ = some (.string (B y)) := by
                    have hlt7 : vb < wr.heap.size := by
                      obtain ⟨o, ho, _⟩ := cells_of_cell hvc5
                      exact (Array.getElem?_eq_some_iff.1 ho).1
                    exact (hb67.cell (p := ⟨vb, vo + k, none⟩) hlt7).trans hvc5
                  clear hb7 hb67
                  by_cases hq : q = (n : Int)
                  · subst hq
                    have hll := HLL.out
                    have hw4 : w4.heap.size ≤ w7.heap.size := HB7.out.size
                    have HYE : Hid (refK r n (ys.take (k + 1)) = refK r n (ys.take k) ++ [(y, (n : Int))]) := Lib.hid (HY1.out rfl)
                    have h63 : L.length + 1 ≤ maxLen := by unfold maxLen; omega
                    have hby : (L.length + 1) * 24 ≤ 140737488355328 := by omega
                    clear hll HLL
                    go_wp2_with (at_builtin; refine wpList_append_own _ rfl _ _ 23 rfl w4.heap.size 61 i0 (.agg #[.string ⟨#[]⟩, .int .i64 0]) 2 24 Tryz.underlying23 hi0 hz0 hz1 hz2 rfl (by decide) _ _ _ rfl (hrow7.alloc _) ⟨w7.heap.size, 0, none⟩ 1 1 [.string (B y), .int .i64 n] rfl rfl (fun j u h => cell_two_new' _ _ _ _ j u h) (by simp [Value.oneCell']) h63 hby (by simp; omega) ?_; intro v' w8 hown' hgrow _)
                    have HB8 := Lib.hid ((HB7.out.alloc hw4 _).grown hgrow (by simp; omega) (fun k e => (hrow7.lt k e).1))
                    clear hgrow
                    go_wp2_with fail
                    go_roundw
                    case rel => exact ⟨k + 1, L ++ [(y, (n : Int))], by omega, by go_num, Lib.hid (by rw [HYE.out, ← List.append_assoc, ← hL.out]), by rw [List.length_append, List.flatMap_append]; simpa [encP] using hown', HB8⟩
                    case measure => simp [intOf]; omega
                  · have hqn : (q == (n : Int)) = false := by simpa using hq
                    have HR : Hid (refK r n (ys.take (k + 1)) = refK r n (ys.take k)) := Lib.hid (HN1.out hq)
                    have HRow7 := Lib.hid hrow7
                    clear hq
                    go_wp2_with fail
                    go_roundw
                    case rel => exact ⟨k + 1, L, by omega, by go_num, Lib.hid (by rw [HR.out]; exact hL.out), HRow7.out, HB7⟩
                    case measure => simp [intOf]; omega
                · obtain rfl : k = ys.length := by omega
                  go_wp2_with fail
                  go_roundw
                  case rel => exact ⟨n + 1, L, by omega, by go_num, Lib.hid (by rw [hL.out, List.take_length, refL_succ]), Lib.hid (by
                    rw [hL.out, List.take_length, ← refL_succ]
                    have h1 := refL_len r ys (n + 1)
                    have h3 : (n + 1) * ys.length ≤ 3 * ys.length := Nat.mul_le_mul_right _ (by omega)
                    omega), hrow, hB5⟩
                  case measure => simp [intOf]; omega
            · obtain rfl : n = i + 1 := by omega
              have hni : ¬ ((i + 1 : Nat) : Int) ≤ (i : Int) := by omega
              have hni' : ¬ (i : Int) + 1 ≤ (i : Int) := by omega
              have hsz1 := hB.out.size
              have hsz2 := hBj.out.size
              have hsz3 := HB4.out.size
              have hsz4 := HZ2.out
              have hsz5 := HQ.out
              have hc2 : wr.heap[w.heap.size]? = some (.cells #[.slice none 0 0, .int .i64 0] 28 (0, 0)) :=
                (hB5.out.block _ (by omega)).trans ((HB4.out.block _ (by omega)).trans ((hBj.out.block _ (by omega)).trans ((hB.out.block _ (by omega)).trans HR2.out)))
              have hd0 : wr.cell? ⟨w.heap.size, 0, none⟩ = some (.slice none 0 0) := cell_of_heap hc2 0
              have hd1 : wr.cell? ⟨w.heap.size, 1, none⟩ = some (.int .i64 0) := cell_of_heap hc2 1
              have g0 := free_of_heap hc2 0
              have g1 := free_of_heap hc2 1
              have HBB : Hid (Below w.heap.size w wr) := Lib.hid (HB0.out.trans ((hB.out.mono (by omega)).trans ((hBj.out.mono (by omega)).trans ((HB4.out.mono (by omega)).trans (hB5.out.mono (by omega))))))
              have HRow := Lib.hid hrow
              have HLt : Hid (w.heap.size < w4.heap.size) := Lib.hid (by omega)
              obtain ⟨oa, oc, rfl⟩ : ∃ oa oc, u15 = .slice oa L.length oc := by
                rcases hrow.2 with ⟨h, h'⟩ | ⟨g, cap, cur, h, _⟩
                · exact ⟨none, 0, by rw [h, h']⟩
                · exact ⟨_, _, h⟩
              clear hc2 hrow hsz1 hsz2 hsz3 hsz4 hsz5
              go_wp2_with fail
              refine bodyPost_ret (v := .agg #[.slice oa L.length oc, .int .i64 0]) ?_ rfl ⟨_, rfl, ys, ?_, HST.out, HY.out, hyl, ?_⟩
              · simp [results, Tryz.results9, go_sem, hd0, hd1]
              · rw [← hL.out]
                exact PRow.of_own (ownsRow_setCell_below (ownsRow_setCell_below HRow.out HLt.out _) HLt.out _)
              · exact (HBB.out.setCell (p := ⟨w.heap.size, 0, none⟩) (Nat.le_refl _) _).setCell (p := ⟨w.heap.size, 1, none⟩) (Nat.le_refl _) _
        · intro x cv w1' cnt1 hlk hrg1 hlt1 hg1 hs1 hen
          have hm0 : wr.rangeLeft b (Q + 1) = cnt := hrg.left_eq
          have hxS : x ∈ S := hC.out.2.2 x hlk
          have hxl : x.length ≤ 102 := by have := hX.out x hxS; omega
          have hM1 : SetAt w1' Q W := World.ownsMap.kept hM.out hg1 (by simp)
          have HRd := Lib.hid (rread_any (B x) w1' (by rw [size_B]; unfold maxLen; omega))
          rw [L_B] at HRd
          have HC1 := Lib.hid (hC.out.step hlk)
          have HRG1 := Lib.hid hrg1
          have HM1 := Lib.hid hM1
          have HB1 := Lib.hid (hBj.out.grown hg1 (by have := hBj.out.size; have := HQ.out; omega) (fun k e => by cases e; omega))
          have HML := Lib.hid hm0
          clear hrg hrg1 hM hM1 hC hBj hlk hg1 hxS hxl hm0
          go_wp2_with fail
          refine HRd.out.mono ?_
          rintro e w3 ⟨rfl, hb3⟩
          have hbe := HB1.out.size
          have hrg3 := HRG1.out.kept (row := none) ⟨hb3.os, hb3.tape, hb3.output, hb3.size, fun k hk _ => hb3.block k hk⟩ (by simp) (by simp)
          have hM3 : SetAt w3 Q W := World.ownsMap.kept HM1.out (row := none) ⟨hb3.os, hb3.tape, hb3.output, hb3.size, fun k hk _ => hb3.block k hk⟩ (by simp)
          have HB3 := Lib.hid (HB1.out.trans (hb3.mono (by have := HQ.out; omega)))
          have HRG3 := Lib.hid hrg3; have HM3 := Lib.hid hM3
          clear hb3 hbe hrg3 hM3
          rcases read_two x with ⟨y, hy, hyx, hv⟩ | ⟨hno, pb, ee, he, hv⟩
          · rw [hv]
            have hyl := (word_parts hy).2.1
            have HKy : Hid (keyOf Tryz.prog 9 (.string (B y)) = some (.string y)) := Lib.hid (by
              have := WideMaps.keyOf_string_mk Tryz.underlying9 (s := B y) (by rw [size_B]; unfold maxLen; omega)
              rw [L_B] at this; exact this)
            have HNo : Hid (∀ y', y' ∈ W ++ [y] ↔ wordB y' = true ∧ signalL y' ∈ zs ++ [x]) := Lib.hid (fun y' => by
              rw [List.mem_append, List.mem_append, List.mem_singleton, List.mem_singleton, hW.out]
              constructor
              · rintro (h | rfl)
                · exact ⟨h.1, .inl h.2⟩
                · exact ⟨hy, .inr hyx⟩
              · rintro ⟨h1, h2 | h2⟩
                · exact .inl ⟨h1, h2⟩
                · exact .inr (signal_inj h1 hy (h2.trans hyx.symm)))
            clear hv hy hyx hyl
            go_wp2_with (at_mapUpdate; refine wpList_mapUpdate_own _ rfl _ _ _ 59 rfl 9 4 lawStr Tryz.underlying59 _ Q _ _ rfl HM3.out (by unfold maxLen; omega) _ _ (.string y) rfl rfl HKy.out (.lit (.bool true)) [] HV.out ?_; intro w5 hown5 hgrow5)
            have hM5 := Lib.hid (SetAt.of hown5)
            have hrg5 := HRG3.out.kept hgrow5 (by simp; omega) (by simp)
            have HB5 := Lib.hid (HB3.out.grown hgrow5 (by have := HB3.out.size; have := HQ.out; omega) (fun k e => by cases e; omega))
            clear hown5 hgrow5
            go_frame
            go_roundw
            case rel => exact ⟨_, cnt1, zs ++ [x], W ++ [y], hrg5, hM5, HNo, by simp; omega, HC1, by simp; omega, HB5⟩
            case measure => rw [hrg5.left_eq, HML.out]; exact hlt1
          · rw [hv]
            have hee : (ee == 0) = false := by simpa using he
            have HNo : Hid (∀ y, y ∈ W ↔ wordB y = true ∧ signalL y ∈ zs ++ [x]) := Lib.hid (fun y => by
              rw [hW.out, List.mem_append, List.mem_singleton]
              exact ⟨fun h => ⟨h.1, .inl h.2⟩, fun h => ⟨h.1, h.2.resolve_right (hno y h.1)⟩⟩)
            clear hno hv he
            go_wp2_with fail
            go_roundw
            case rel => exact ⟨_, cnt1, zs ++ [x], W, HRG3.out, HM3, HNo, by simp; omega, HC1, by simp; omega, HB3⟩
            case measure => rw [HRG3.out.left_eq, HML.out]; exact hlt1
end Go.Proofs.YtjbdmlpadoiicaaGreatDoor
