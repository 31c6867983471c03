/- Bits of sets, idsOf and Watchers of package ridge. -/
import Derived.Test.YtnacgogcbbpjmaaHV1
import Derived.Test.YtnacgogcbbpjmaaHP2
import Derived.Test.YtnacgogcbbpjmaaHQ0
set_option linter.unusedVariables false
set_option linter.unusedSimpArgs false
namespace Go.Proofs.Ytnacgogcbbpjmaa
open Go Go.RowKit

theorem mTo_bit (f : Nat → Bool) : ∀ k i, (mTo f k).testBit i = (decide (i < k) && f i)
  | 0, i => by simp [mTo]
  | k + 1, i => by
    have h := mTo_bit f k i
    have hlt := mTo_lt f k
    have hk1 : 2 ^ (k + 1) = 2 ^ k + 2 ^ k := by rw [Nat.pow_succ]; omega
    rw [mTo]
    by_cases hf : f k = true
    · rw [if_pos hf, Nat.add_comm]
      by_cases e : i = k
      · subst e
        rw [Nat.testBit_two_pow_add_eq, h]; simp [hf]
      · by_cases e2 : i < k
        · rw [Nat.testBit_two_pow_add_gt e2, h]
          have e3 : i < k + 1 := by omega
          simp [e2, e3]
        · have e3 : ¬ i < k + 1 := by omega
          have hp := Nat.pow_le_pow_right (show 0 < 2 by decide) (show k + 1 ≤ i by omega)
          rw [Nat.testBit_lt_two_pow (by omega)]
          simp [e3]
    · rw [if_neg hf, h]
      by_cases e : i = k
      · subst e; simp [hf]
      · have e3 : (i < k) = (i < k + 1) := by rw [eq_iff_iff]; omega
        simp only [e3]
theorem countP_upto (f : Nat → Bool) (k : Nat) : ∀ n, (List.range n).countP (fun i => decide (i < k) && f i) = (List.range (min n k)).countP f
  | 0 => by simp
  | n + 1 => by
    rw [List.range_succ, List.countP_append, countP_upto f k n, List.countP_singleton]
    by_cases h : n < k
    · rw [show min (n + 1) k = n + 1 by omega, show min n k = n by omega, List.range_succ, List.countP_append, List.countP_singleton]
      simp [h]
    · rw [show min (n + 1) k = k by omega, show min n k = k by omega]
      simp [h]
theorem onesN_mTo (f : Nat → Bool) {k : Nat} (hk : k ≤ 12) : onesN (mTo f k) = (List.range k).countP f := by
  unfold onesN
  simp only [mTo_bit]
  rw [countP_upto, show min 12 k = k by omega]
theorem range_getD {α : Type} (L : List α) (d : α) : (List.range L.length).map (fun i => L.getD i d) = L := by
  apply List.ext_getElem
  · simp
  · intro i h1 h2
    simp [List.getD_eq_getElem?_getD, h2]
theorem countP_getD {α : Type} (L : List α) (d : α) (P : α → Bool) : (List.range L.length).countP (fun i => P (L.getD i d)) = L.countP P := by
  have h : ((List.range L.length).map (fun i => L.getD i d)).countP P = L.countP P := by rw [range_getD]
  rw [List.countP_map] at h
  exact h
theorem and_pow (m i : Nat) : m &&& 2 ^ i = if m.testBit i = true then 2 ^ i else 0 := by
  apply Nat.eq_of_testBit_eq
  intro j
  rw [Nat.testBit_and, Nat.testBit_two_pow]
  by_cases e : i = j
  · subst e
    by_cases h : m.testBit i = true
    · rw [if_pos h, Nat.testBit_two_pow]; simp [h]
    · rw [if_neg h]; simp [h]
  · by_cases h : m.testBit i = true
    · rw [if_pos h, Nat.testBit_two_pow]; simp [e]
    · rw [if_neg h]; simp [e]
theorem and_bit {m i : Nat} (hm : m < 4096) (hi : i ≤ 12) : bits .and .u64 (m : Int) ((2 : Int) ^ i) = if m.testBit i = true then (2 : Int) ^ i else 0 := by
  have hp := pow_bd hi
  have e2 : ∀ n : Nat, BitVec.ofInt 64 (n : Int) = BitVec.ofNat 64 n := fun n => by simp
  have e4 : (BitVec.ofNat 64 m &&& BitVec.ofNat 64 (2 ^ i)).toNat = if m.testBit i = true then 2 ^ i else 0 := by
    rw [BitVec.toNat_and, BitVec.toNat_ofNat, BitVec.toNat_ofNat, Nat.mod_eq_of_lt (by omega), Nat.mod_eq_of_lt (by omega)]
    exact and_pow m i
  show IntKind.u64.wrap ((BitVec.ofInt 64 (m : Int) &&& BitVec.ofInt 64 ((2 : Int) ^ i)).toNat : Int) = _
  rw [pow_cast, e2, e2, e4]
  by_cases h : m.testBit i = true
  · rw [if_pos h, if_pos h]; exact u64_nat (by omega)
  · rw [if_neg h, if_neg h]; rfl
theorem has_any (m i : Nat) (hm : m < 4096) (hi : i ≤ 12) (w : World) : Calls Try.prog 67 #[.int .u64 (m : Nat), .int .i64 i] w fun e w' => e = .returned (.bool (m.testBit i)) ∧ w' = w := by
  have HON := Lib.hid (only_any i hi)
  have HA := Lib.hid (and_bit hm hi)
  have hp0 : ((2 : Int) ^ i) ≠ 0 := by rw [pow_cast]; have := Nat.two_pow_pos i; omega
  obtain ⟨b, hb⟩ : ∃ b, m.testBit i = b := ⟨_, rfl⟩
  rw [hb] at HA ⊢
  clear hb hm hi
  go_enter Try.func67, Try.ntmps67
  go_wp2_with fail
  refine (HON.out _).mono ?_
  rintro e w2 ⟨rfl, rfl⟩
  cases b
  · have ha : bits .and .u64 (m : Int) ((2 : Int) ^ i) = 0 := HA.out
    clear hp0
    go_wp2_with fail
    go_ret
    exact ⟨rfl, rfl⟩
  · have ha : bits .and .u64 (m : Int) ((2 : Int) ^ i) = (2 : Int) ^ i := HA.out
    have hq : (((2 : Int) ^ i) != 0) = true := by simpa using hp0
    go_wp2_with fail
    go_ret
    exact ⟨rfl, rfl⟩
/-- The IDs of those of the first towers that a set has. -/
def idK (L : List Tw) (f : Nat → Bool) : Nat → List Int
  | 0 => []
  | k + 1 => if f k = true then idK L f k ++ [(L.getD k .nil).id] else idK L f k
theorem idK_len (L : List Tw) (f : Nat → Bool) : ∀ k, (idK L f k).length ≤ k
  | 0 => by simp [idK]
  | k + 1 => by
    have := idK_len L f k
    rw [idK]; split
    · simp; omega
    · omega
theorem idK_is {L : List Tw} {f : Nat → Bool} {P : Tw → Bool} (h : ∀ i, i < L.length → f i = P (L.getD i .nil)) : ∀ k, k ≤ L.length → idK L f k = ((L.take k).filter P).map Tw.id
  | 0, _ => by simp [idK]
  | k + 1, hk => by
    rw [idK, idK_is h k (by omega), List.take_succ_eq_append_getElem (by omega), List.filter_append, List.map_append]
    have hf := h k (by omega)
    rw [getD_tw (by omega)] at hf
    rw [getD_tw (by omega)]
    by_cases hp : f k = true
    · rw [if_pos hp]
      rw [hf] at hp
      simp [hp]
    · rw [if_neg hp]
      rw [hf] at hp
      simp [hp]
theorem info_int1 : (Try.prog.info? 3).map (fun i => (i.zero, i.size, i.bytes)) = some (some (.int .i64 0), 1, 8) := by kernel_rfl
set_option maxRecDepth 100000 in
set_option maxHeartbeats 8000000 in
theorem idsOf_any (v : Value) (L : List Tw) (m : Nat) (w : World) (ht : TwRow w v L) (hn : L.length ≤ 12) (hm : m < 4096) :
    Calls Try.prog 43 #[v, .int .u64 (m : Nat)] w fun e w' => ∃ v', e = .returned v' ∧ Below w.heap.size w w' ∧ w'.ownsRow w.heap.size 3 1 v' (idK L m.testBit L.length).length ((idK L m.testBit L.length).map (Value.int .i64 ·)) := by
  obtain ⟨ta, tc, rfl, htc⟩ := ht.form
  have HTC := Lib.hid htc
  have HN12 := Lib.hid hn
  have HHA := Lib.hid (fun (i : Nat) (hi : i ≤ 12) w' => has_any m i hm hi w')
  obtain ⟨i0, hi0, hz0, hz1, hz2⟩ := info_parts info_int1
  obtain ⟨f, hf⟩ : ∃ f, m.testBit = f := ⟨_, rfl⟩
  have HFF : Hid (∀ i, m.testBit i = f i) := Lib.hid (fun i => congrFun hf i)
  rw [hf]
  clear htc ht hn hm hf
  go_enter Try.func43, Try.ntmps43
  go_wp2_with fail
  go_loopw [5, 10] (fun v i wr => ∃ (k : Nat), k ≤ L.length ∧ i = .int .i64 k ∧ Hid (Below w.heap.size w wr) ∧ Hid (wr.ownsRow w.heap.size 3 1 v (idK L f k).length ((idK L f k).map (Value.int .i64 ·)))) (fun _ i _ => L.length - (intOf i).toNat)
  case atStart => exact ⟨0, Nat.zero_le _, rfl, Lib.hid (Below.refl _ _), Lib.hid (World.ownsRow_nil _ _ _ _)⟩
  case round =>
    obtain ⟨k, hk, rfl, hB, hO⟩ := hrel
    by_cases hkl : k < L.length
    · obtain ⟨b, off, rfl, hb, c0, c1, c2, c3⟩ := HTC.out k hkl
      have hki : (k : Int) < L.length := by omega
      have hk0 : (0 : Int) ≤ k := by omega
      have e0 := (hB.out.cell (p := ⟨b, _, none⟩) hb).trans c0
      have e1 := (hB.out.cell (p := ⟨b, _, none⟩) hb).trans c1
      have e2 := (hB.out.cell (p := ⟨b, _, none⟩) hb).trans c2
      have e3 := (hB.out.cell (p := ⟨b, _, none⟩) hb).trans c3
      have HLN := Lib.hid (idK_len L f k)
      have HKK : Hid (idK L f (k + 1) = if f k = true then idK L f k ++ [(L.getD k .nil).id] else idK L f k) := Lib.hid rfl
      have HHK := Lib.hid (fun w' => HHA.out k (by have := HN12.out; omega) w')
      rw [HFF.out k] at HHK
      obtain ⟨⟨ti, tx, ty, th⟩, hx⟩ : ∃ x, L.getD k .nil = x := ⟨_, rfl⟩
      rw [hx] at e0 e1 e2 e3 HKK
      simp only at e0 e1 e2 e3 HKK
      obtain ⟨fb, hfb⟩ : ∃ b, f k = b := ⟨_, rfl⟩
      rw [hfb] at HHK HKK
      have HBY := Lib.hid (hB.out.alloc hB.out.size (.cells #[.int .i64 ti, .int .i64 tx, .int .i64 ty, .int .i64 th] 48))
      have HOY := Lib.hid (World.ownsRow.alloc hO.out (.cells #[.int .i64 ti, .int .i64 tx, .int .i64 ty, .int .i64 th] 48))
      have HRY : Hid ((wr.alloc (.cells #[.int .i64 ti, .int .i64 tx, .int .i64 ty, .int .i64 th] 48)).heap[wr.heap.size]? = some (.cells #[.int .i64 ti, .int .i64 tx, .int .i64 ty, .int .i64 th] 48 (0, 0))) := Lib.hid (heap_alloc_new _ _)
      obtain ⟨dl, hdl⟩ : ∃ l, idK L f k = l := ⟨_, rfl⟩
      rw [hdl] at HKK HOY HLN
      clear hx c0 c1 c2 c3 hb hfb hdl
      go_wp2_with fail
      obtain ⟨Y, hY⟩ : ∃ X, wr.alloc (.cells #[.int .i64 ti, .int .i64 tx, .int .i64 ty, .int .i64 th] 48) = X := ⟨_, rfl⟩
      rw [hY] at HBY HOY HRY ⊢
      obtain ⟨s2, hs2⟩ : ∃ s, wr.heap.size = s := ⟨_, rfl⟩
      rw [hs2] at HRY ⊢
      clear hY hs2 e0 e1 e2 e3
      refine (HHK.out _).mono ?_
      rintro e w6 ⟨rfl, rfl⟩
      cases fb
      · have HN : Hid (idK L f (k + 1) = dl) := Lib.hid (by rw [HKK.out]; rfl)
        have HO9 : Hid (w6.ownsRow w.heap.size 3 1 u5 (idK L f (k + 1)).length ((idK L f (k + 1)).map (Value.int .i64 ·))) := Lib.hid (by rw [HN.out]; exact HOY.out)
        have hn12 := HN12.out
        go_wp2_with fail
        go_roundw
        case rel => exact ⟨k + 1, by omega, by go_num, HBY, HO9⟩
        case measure => simp [intOf]; omega
      · have HN : Hid (idK L f (k + 1) = dl ++ [ti]) := Lib.hid (by rw [HKK.out]; rfl)
        have hlen := HLN.out
        have hn12 := HN12.out
        have h63 : dl.length + 1 ≤ maxLen := by unfold maxLen; omega
        have hby : (dl.length + 1) * 8 ≤ 140737488355328 := by omega
        have hbase : w.heap.size ≤ w6.heap.size := HBY.out.size
        have hO6 := HOY.out
        have e0 := cellH HRY.out 0
        simp only [List.getElem?_toArray, List.getElem?_cons_zero, List.getElem?_cons_succ] at e0
        clear hlen
        go_wp2_with (at_builtin; refine wpList_append_own _ rfl _ _ 22 rfl w.heap.size 3 i0 (.int .i64 0) 1 8 Try.underlying22 hi0 hz0 hz1 hz2 rfl (by decide) _ _ _ rfl (World.ownsRow.alloc hO6 _) ⟨w6.heap.size, 0, none⟩ 1 1 [.int .i64 ti] rfl rfl (fun j u h => cell_one' _ _ _ j u h) (by simp [Value.oneCell']) h63 hby (by simp; omega) ?_; intro v' w8 hown' hgrow _)
        have HB7 : Hid (Below w.heap.size w w8) := Lib.hid ((HBY.out.alloc hbase _).grown hgrow (by simp; omega) (fun j e => (World.ownsRow.lt hO6 j e).1))
        have HO7 : Hid (w8.ownsRow w.heap.size 3 1 v' (idK L f (k + 1)).length ((idK L f (k + 1)).map (Value.int .i64 ·))) := Lib.hid (by
          rw [HN.out, List.length_append, List.map_append]; exact hown')
        clear hown' hgrow hO6 e0
        go_wp2_with fail
        go_roundw
        case rel => exact ⟨k + 1, by omega, by go_num, HB7, HO7⟩
        case measure => simp [intOf]; omega
    · obtain rfl : k = L.length := by omega
      go_wp2_with fail
      go_ret
      exact ⟨_, rfl, hB.out, hO.out⟩
def wtE (wd hg : Int) (g : List Int) (T : List Tw) (H : List Hz) (p : Pl) (rise tick : Int) : Int := if ckE wd hg g T H = 0 then (if (onB wd hg p && wiB rise 0 200 && wiB tick 0 1048576) = true then 0 else 1) else ckE wd hg g T H
/-- The IDs of the towers that see a place. -/
def wtL (g : List Int) (wd : Int) (L : List Tw) (p : Pl) (rise far : Int) : List Int := (L.filter fun t => seB g wd t p rise far).map Tw.id
theorem idK_wt (g : List Int) (wd : Int) (L : List Tw) (p : Pl) (rise far : Int) : idK L (mTo (seI g wd L p rise far) L.length).testBit L.length = wtL g wd L p rise far := by
  rw [idK_is (P := fun t => seB g wd t p rise far) (fun i hi => by rw [mTo_bit]; simp [hi, seI]) L.length (Nat.le_refl _), List.take_length]; rfl
theorem wtE_ok {wd hg : Int} {g : List Int} {T : List Tw} {H : List Hz} {p : Pl} {rise tick : Int} (h : wtE wd hg g T H p rise tick = 0) : ckE wd hg g T H = 0 ∧ onB wd hg p = true ∧ wiB rise 0 200 = true ∧ wiB tick 0 1048576 = true := by
  unfold wtE at h
  split at h
  case isFalse h1 => exact absurd h h1
  case isTrue h1 =>
    split at h
    case isFalse => cases h
    case isTrue h2 =>
      simp only [Bool.and_eq_true] at h2
      exact ⟨h1, h2.1.1, h2.1.2, h2.2⟩
/-- What Watchers returns. -/
def WaOut (EW : Int) (g : List Int) (wd : Int) (T : List Tw) (p : Pl) (rise fa : Int) (w : World) (e : Ending) (w' : World) : Prop :=
  ∃ v', e = .returned (.tuple #[v', .int .i64 EW]) ∧ Below w.heap.size w w' ∧ (EW ≠ 0 → v' = .slice none 0 0) ∧
    (EW = 0 → ∃ L, Ord L T ∧ w'.ownsRow w.heap.size 3 1 v' (wtL g wd L p rise fa).length ((wtL g wd L p rise fa).map (Value.int .i64 ·)))
end Go.Proofs.Ytnacgogcbbpjmaa
