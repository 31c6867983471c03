/- Bits of sets, idsOf and Watchers of package ridge. -/
import Derived.Test.YtnacgogcbbpjmaaGreatHV1
import Derived.Test.YtnacgogcbbpjmaaGreatHP2
import Derived.Test.YtnacgogcbbpjmaaGreatHQ0
set_option linter.unusedVariables false
set_option linter.unusedSimpArgs false
namespace Go.Proofs.YtnacgogcbbpjmaaGreat
open Go Go.RowKit

theorem mTo_bit (f : Nat → Bool) : ∀ k i, (mTo f k).testBit i = (decide (i < k) && f i)
  | 0, i => by simp [mTo]
  | k + 1, i => by
    have h := mTo_bit f k i
    have hlt := mTo_lt f k
    have hk1 : 2 ^ (k + 1) = 2 ^ k + 2 ^ k := by rw [Nat.pow_succ]; omega
    rw [mTo]
    by_cases hf : f k = true
    · rw [if_pos hf, Nat.add_comm]
      by_cases e : i = k
      · subst e
        rw [Nat.testBit_two_pow_add_eq, h]; simp [hf]
      · by_cases e2 : i < k
        · rw [Nat.testBit_two_pow_add_gt e2, h]
          have e3 : i < k + 1 := by omega
          simp [e2, e3]
        · have e3 : ¬ i < k + 1 := by omega
          have hp := Nat.pow_le_pow_right (show 0 < 2 by decide) (show k + 1 ≤ i by omega)
          rw [Nat.testBit_lt_two_pow (by omega)]
          simp [e3]
    · rw [if_neg hf, h]
      by_cases e : i = k
      · subst e; simp [hf]
      · have e3 : (i < k) = (i < k + 1) := by rw [eq_iff_iff]; omega
        simp only [e3]
theorem countP_upto (f : Nat → Bool) (k : Nat) : ∀ n, (List.range n).countP (fun i => decide (i < k) && f i) = (List.range (min n k)).countP f
  | 0 => by simp
  | n + 1 => by
    rw [List.range_succ, List.countP_append, countP_upto f k n, List.countP_singleton]
    by_cases h : n < k
    · rw [show min (n + 1) k = n + 1 by omega, show min n k = n by omega, List.range_succ, List.countP_append, List.countP_singleton]
      simp [h]
    · rw [show min (n + 1) k = k by omega, show min n k = k by omega]
      simp [h]
theorem onesN_mTo (f : Nat → Bool) {k : Nat} (hk : k ≤ 12) : onesN (mTo f k) = (List.range k).countP f := by
  unfold onesN
  simp only [mTo_bit]
  rw [countP_upto, show min 12 k = k by omega]
theorem range_getD {α : Type} (L : List α) (d : α) : (List.range L.length).map (fun i => L.getD i d) = L := by
  apply List.ext_getElem
  · simp
  · intro i h1 h2
    simp [List.getD_eq_getElem?_getD, h2]
theorem countP_getD {α : Type} (L : List α) (d : α) (P : α → Bool) : (List.range L.length).countP (fun i => P (L.getD i d)) = L.countP P := by
  have h : ((List.range L.length).map (fun i => L.getD i d)).countP P = L.countP P := by rw [range_getD]
  rw [List.countP_map] at h
  exact h
theorem and_pow (m i : Nat) : m &&& 2 ^ i = if m.testBit i = true then 2 ^ i else 0 := by
  apply Nat.eq_of_testBit_eq
  intro j
  rw [Nat.testBit_and, Nat.testBit_two_pow]
  by_cases e : i = j
  · subst e
    by_cases h : m.testBit i = true
    · rw [if_pos h, Nat.testBit_two_pow]; simp [h]
    · rw [if_neg h]; simp [h]
  · by_cases h : m.testBit i = true
    · rw [if_pos h, Nat.testBit_two_pow]; simp [e]
    · rw [if_neg h]; simp [e]
theorem and_bit {m i : Nat} (hm : m < 4096) (hi : i ≤ 12) : bits .and .u64 (m : Int) ((2 : Int) ^ i) = if m.testBit i = true then (2 : Int) ^ i else 0 := by
  have hp := pow_bd hi
  have e2 : ∀ n : Nat, BitVec.ofInt 64 (n : Int) = BitVec.ofNat 64 n := fun n => by simp
  have e4 : (BitVec.ofNat 64 m &&& BitVec.ofNat 64 (2 ^ i)).toNat = if m.testBit i = true then 2 ^ i else 0 := by
    rw [BitVec.toNat_and, BitVec.toNat_ofNat, BitVec.toNat_ofNat, Nat.mod_eq_of_lt (by omega), Nat.mod_eq_of_lt (by omega)]
    exact and_pow m i
  show IntKind.u64.wrap ((BitVec.ofInt 64 (m : Int) &&& BitVec.ofInt 64 ((2 : Int) ^ i)).toNat : Int) = _
  rw [pow_cast, e2, e2, e4]
  by_cases h : m.testBit i = true
  · rw [if_pos h, if_pos h]; exact u64_nat (by omega)
  · rw [if_neg h, if_neg h]; rfl
theorem has_any (m i : Nat) (hm : m < 4096) (hi : i ≤ 12) (w : World) : Calls Tryz.prog 78 #[.int .u64 (m : Nat), .int .i64 i] w fun e w' => e = .returned (.bool (m.testBit i)) ∧ w' = w := by
  have HON := Lib.hid (only_any i hi)
  have HA := Lib.hid (and_bit hm hi)
  have hp0 : ((2 : Int) ^ i) ≠ 0 := by rw [pow_cast]; have := Nat.two_pow_pos i; omega
  obtain ⟨b, hb⟩ : ∃ b, m.testBit i = b := ⟨_, rfl⟩
  rw [hb] at HA ⊢
  clear hb hm hi
  go_enter Tryz.func78, Tryz.ntmps78
  go_wp2_with fail
  refine (HON.out _).mono ?_
  rintro e w2 ⟨rfl, rfl⟩
  cases b
  · have ha : bits .and .u64 (m : Int) ((2 : Int) ^ i) = 0 := HA.out
    clear hp0
    go_wp2_with fail
    go_ret
    exact ⟨rfl, rfl⟩
  · have ha : bits .and .u64 (m : Int) ((2 : Int) ^ i) = (2 : Int) ^ i := HA.out
    have hq : (((2 : Int) ^ i) != 0) = true := by simpa using hp0
    go_wp2_with fail
    go_ret
    exact ⟨rfl, rfl⟩
/-- The IDs of those of the first towers that a set has. -/
def idK (L : List Tw) (f : Nat → Bool) : Nat → List Int
  | 0 => []
  | k + 1 => if f k = true then idK L f k ++ [(L.getD k .nil).id] else idK L f k
theorem idK_len (L : List Tw) (f : Nat → Bool) : ∀ k, (idK L f k).length ≤ k
  | 0 => by simp [idK]
  | k + 1 => by
    have := idK_len L f k
    rw [idK]; split
    · simp; omega
    · omega
theorem idK_is {L : List Tw} {f : Nat → Bool} {P : Tw → Bool} (h : ∀ i, i < L.length → f i = P (L.getD i .nil)) : ∀ k, k ≤ L.length → idK L f k = ((L.take k).filter P).map Tw.id
  | 0, _ => by simp [idK]
  | k + 1, hk => by
    rw [idK, idK_is h k (by omega), List.take_succ_eq_append_getElem (by omega), List.filter_append, List.map_append]
    have hf := h k (by omega)
    rw [getD_tw (by omega)] at hf
    rw [getD_tw (by omega)]
    by_cases hp : f k = true
    · rw [if_pos hp]
      rw [hf] at hp
      simp [hp]
    · rw [if_neg hp]
      rw [hf] at hp
      simp [hp]
theorem info_int1 : (Tryz.prog.info? 3).map (fun i => (i.zero, i.size, i.bytes)) = some (some (.int .i64 0), 1, 8) := by kernel_rfl
set_option maxRecDepth 100000 in
set_option maxHeartbeats 8000000 in
theorem idsOf_any (v : Value) (L : List Tw) (m : Nat) (w : World) (ht : TwRow w v L) (hn : L.length ≤ 12) (hm : m < 4096) :
    Calls Tryz.prog 43 #[v, .int .u64 (m : Nat)] w fun e w' => ∃ v', e = .returned v' ∧ Below w.heap.size w w' ∧ w'.ownsRow w.heap.size 3 1 v' (idK L m.testBit L.length).length ((idK L m.testBit L.length).map (Value.int .i64 ·)) := by
  obtain ⟨ta, tc, rfl, htc⟩ := ht.form
  have HTC := Lib.hid htc
  have HN12 := Lib.hid hn
  have HHA := Lib.hid (fun (i : Nat) (hi : i ≤ 12) w' => has_any m i hm hi w')
  obtain ⟨i0, hi0, hz0, hz1, hz2⟩ := info_parts info_int1
  obtain ⟨f, hf⟩ : ∃ f, m.testBit = f := ⟨_, rfl⟩
  have HFF : Hid (∀ i, m.testBit i = f i) := Lib.hid (fun i => congrFun hf i)
  rw [hf]
  clear htc ht hn hm hf
  go_enter Tryz.func43, Tryz.ntmps43
  go_wp2_with fail
  go_loopw [5, 10] (fun v i wr => ∃ (k : Nat), k ≤ L.length ∧ i = .int .i64 k ∧ Hid (Below w.heap.size w wr) ∧ Hid (wr.ownsRow w.heap.size 3 1 v (idK L f k).length ((idK L f k).map (Value.int .i64 ·)))) (fun _ i _ => L.length - (intOf i).toNat)
  case atStart => exact ⟨0, Nat.zero_le _, rfl, Lib.hid (Below.refl _ _), Lib.hid (World.ownsRow_nil _ _ _ _)⟩
  case round =>
    obtain ⟨k, hk, rfl, hB, hO⟩ := hrel
    by_cases hkl : k < L.length
    · obtain ⟨b, off, rfl, hb, c0, c1, c2, c3⟩ := HTC.out k hkl
      have hki : (k : Int) < L.length := by omega
      have hk0 : (0 : Int) ≤ k := by omega
      have e0 := (hB.out.cell (p := ⟨b, _, none⟩) hb).trans c0
      have e1 := (hB.out.cell (p := ⟨b, _, none⟩) hb).trans c1
      have e2 := (hB.out.cell (p := ⟨b, _, none⟩) hb).trans c2
      have e3 := (hB.out.cell (p := ⟨b, _, none⟩) hb).trans c3
      have HLN := Lib.hid (idK_len L f k)
      have HKK : Hid (idK L f (k + 1) = if f k = true then idK L f k ++ [(L.getD k .nil).id] else idK L f k) := Lib.hid rfl
      have HHK := Lib.hid (fun w' => HHA.out k (by have := HN12.out; omega) w')
      rw [HFF.out k] at HHK
      obtain ⟨⟨ti, tx, ty, th⟩, hx⟩ : ∃ x, L.getD k .nil = x := ⟨_, rfl⟩
      rw [hx] at e0 e1 e2 e3 HKK
      simp only at e0 e1 e2 e3 HKK
      obtain ⟨fb, hfb⟩ : ∃ b, f k = b := ⟨_, rfl⟩
      rw [hfb] at HHK HKK
      have HBY := Lib.hid (hB.out.alloc hB.out.size (.cells #[.int .i64 ti, .int .i64 tx, .int .i64 ty, .int .i64 th] 67))
      have HOY := Lib.hid (World.ownsRow.alloc hO.out (.cells #[.int .i64 ti, .int .i64 tx, .int .i64 ty, .int .i64 th] 67))
      have HRY : Hid ((wr.alloc (.cells #[.int .i64 ti, .int .i64 tx, .int .i64 ty, .int .i64 th] 67)).heap[wr.heap.size]? = some (.cells #[.int .i64 ti, .int .i64 tx, .int .i64 ty, .int .i64 th] 67 (0, 0))) := Lib.hid (heap_alloc_new _ _)
      obtain ⟨dl, hdl⟩ : ∃ l, idK L f k = l := ⟨_, rfl⟩
      rw [hdl] at HKK HOY HLN
      clear hx c0 c1 c2 c3 hb hfb hdl
      go_wp2_with fail
      obtain ⟨Y, hY⟩ : ∃ X, wr.alloc (.cells #[.int .i64 ti, .int .i64 tx, .int .i64 ty, .int .i64 th] 67) = X := ⟨_, rfl⟩
      rw [hY] at HBY HOY HRY ⊢
      obtain ⟨s2, hs2⟩ : ∃ s, wr.heap.size = s := ⟨_, rfl⟩
      rw [hs2] at HRY ⊢
      clear hY hs2 e0 e1 e2 e3
      refine (HHK.out _).mono ?_
      rintro e w6 ⟨rfl, rfl⟩
      cases fb
      · have HN : Hid (idK L f (k + 1) = dl) := Lib.hid (by rw [HKK.out]; rfl)
        have HO9 : Hid (w6.ownsRow w.heap.size 3 1 u5 (idK L f (k + 1)).length ((idK L f (k + 1)).map (Value.int .i64 ·))) := Lib.hid (by rw [HN.out]; exact HOY.out)
        have hn12 := HN12.out
        go_wp2_with fail
        go_roundw
        case rel => exact ⟨k + 1, by omega, by go_num, HBY, HO9⟩
        case measure => simp [intOf]; omega
      · have HN : Hid (idK L f (k + 1) = dl ++ [ti]) := Lib.hid (by rw [HKK.out]; rfl)
        have hlen := HLN.out
        have hn12 := HN12.out
        have h63 : dl.length + 1 ≤ maxLen := by unfold maxLen; omega
        have hby : (dl.length + 1) * 8 ≤ 140737488355328 := by omega
        have hbase : w.heap.size ≤ w6.heap.size := HBY.out.size
        have hO6 := HOY.out
        have e0 := cellH HRY.out 0
        simp only [List.getElem?_toArray, List.getElem?_cons_zero, List.getElem?_cons_succ] at e0
        clear hlen
        go_wp2_with (at_builtin; refine wpList_append_own _ rfl _ _ 22 rfl w.heap.size 3 i0 (.int .i64 0) 1 8 Tryz.underlying22 hi0 hz0 hz1 hz2 rfl (by decide) _ _ _ rfl (World.ownsRow.alloc hO6 _) ⟨w6.heap.size, 0, none⟩ 1 1 [.int .i64 ti] rfl rfl (fun j u h => cell_one' _ _ _ j u h) (by simp [Value.oneCell']) h63 hby (by simp; omega) ?_; intro v' w8 hown' hgrow _)
        have HB7 : Hid (Below w.heap.size w w8) := Lib.hid ((HBY.out.alloc hbase _).grown hgrow (by simp; omega) (fun j e => (World.ownsRow.lt hO6 j e).1))
        have HO7 : Hid (w8.ownsRow w.heap.size 3 1 v' (idK L f (k + 1)).length ((idK L f (k + 1)).map (Value.int .i64 ·))) := Lib.hid (by
          rw [HN.out, List.length_append, List.map_append]; exact hown')
        clear hown' hgrow hO6 e0
        go_wp2_with fail
        go_roundw
        case rel => exact ⟨k + 1, by omega, by go_num, HB7, HO7⟩
        case measure => simp [intOf]; omega
    · obtain rfl : k = L.length := by omega
      go_wp2_with fail
      go_ret
      exact ⟨_, rfl, hB.out, hO.out⟩
def wtE (wd hg : Int) (g : List Int) (T : List Tw) (H : List Hz) (p : Pl) (rise tick : Int) : Int := if ckE wd hg g T H = 0 then (if (onB wd hg p && wiB rise 0 200 && wiB tick 0 1048576) = true then 0 else 1) else ckE wd hg g T H
/-- The IDs of the towers that see a place. -/
def wtL (g : List Int) (wd : Int) (L : List Tw) (p : Pl) (rise far : Int) : List Int := (L.filter fun t => seB g wd t p rise far).map Tw.id
theorem idK_wt (g : List Int) (wd : Int) (L : List Tw) (p : Pl) (rise far : Int) : idK L (mTo (seI g wd L p rise far) L.length).testBit L.length = wtL g wd L p rise far := by
  rw [idK_is (P := fun t => seB g wd t p rise far) (fun i hi => by rw [mTo_bit]; simp [hi, seI]) L.length (Nat.le_refl _), List.take_length]; rfl
theorem wtE_ok {wd hg : Int} {g : List Int} {T : List Tw} {H : List Hz} {p : Pl} {rise tick : Int} (h : wtE wd hg g T H p rise tick = 0) : ckE wd hg g T H = 0 ∧ onB wd hg p = true ∧ wiB rise 0 200 = true ∧ wiB tick 0 1048576 = true := by
  unfold wtE at h
  split at h
  case isFalse h1 => exact absurd h h1
  case isTrue h1 =>
    split at h
    case isFalse => cases h
    case isTrue h2 =>
      simp only [Bool.and_eq_true] at h2
      exact ⟨h1, h2.1.1, h2.1.2, h2.2⟩
/-- What Watchers returns. -/
def WaOut (EW : Int) (g : List Int) (wd : Int) (T : List Tw) (p : Pl) (rise fa : Int) (w : World) (e : Ending) (w' : World) : Prop :=
  ∃ v', e = .returned (.tuple #[v', .int .i64 EW]) ∧ Below w.heap.size w w' ∧ (EW ≠ 0 → v' = .slice none 0 0) ∧
    (EW = 0 → ∃ L, Ord L T ∧ w'.ownsRow w.heap.size 3 1 v' (wtL g wd L p rise fa).length ((wtL g wd L p rise fa).map (Value.int .i64 ·)))
set_option maxRecDepth 100000 in
set_option maxHeartbeats 8000000 in
theorem Watchers_any (wd hg : Int) (o tv hv : Value) (g : List Int) (T : List Tw) (H : List Hz) (x y rise tick : Int) (w : World) (ho : INRow w o g) (hl : g.length ≤ 9223372036854775807) (ht : TwRow w tv T) (htl : T.length ≤ 9223372036854775807) (hh : HzRow w hv H) (hhl : H.length ≤ 9223372036854775807) :
    Calls Tryz.prog 11 #[coV wd hg o tv hv, .agg #[.int .i64 x, .int .i64 y], .int .i64 rise, .int .i64 tick] w fun e w' => WaOut (wtE wd hg g T H (x, y) rise tick) g wd T (x, y) rise (faO H tick) w e w' := by
  have HC1 := Lib.hid (fun w' (h : Below w.heap.size w w') => Check_any wd hg o tv hv g T H w' (ho.keep h) hl (ht.keep h) htl (hh.keep h) hhl)
  have HON := Lib.hid (fun w' => On_any wd hg o (x, y) w')
  have HVT := Lib.hid (validTall_any rise)
  have HVK := Lib.hid (validTick_any tick)
  have HFA := Lib.hid (fun (hck : ckE wd hg g T H = 0) w' (h : Below w.heap.size w w') => farAt_any wd hg o tv hv H tick w' (hh.keep h) (by obtain ⟨_, _, h, _⟩ := ckE_ok hck; omega))
  have HOR := Lib.hid (fun (hck : ckE wd hg g T H = 0) w' (h : Below w.heap.size w w') => ordered_any tv T w' (ht.keep h) (ckE_ok hck).2.1 (ckE_ok hck).2.2.2.2.1)
  have HWT := Lib.hid (fun (hck : ckE wd hg g T H = 0) (hon : onB wd hg (x, y) = true) (hri : wiB rise 0 200 = true) V L w' (h : Below w.heap.size w w') (hr : TwRow w' V L) (hO : Ord L T) => watching_any wd hg o g V L x y rise (faO H tick) w' (ho.keep h) hr (by have h1 := hO.1.length_eq; have h2 := (ckE_ok hck).2.1; omega) (fun t ht => (ckE_ok hck).2.2.2.1 t (hO.1.mem_iff.1 ht)) (ckE_ok hck).1 hon (wi_rise hri) (faO_bd (ckE_ok hck).2.2.2.2.2))
  have HN12 := Lib.hid (fun (hck : ckE wd hg g T H = 0) => (ckE_ok hck).2.1)
  obtain ⟨oa, oc, rfl, _⟩ := ho.form
  obtain ⟨ta, tc, rfl, _⟩ := ht.form
  clear ho ht hh hl htl hhl
  unfold wtE
  unfold mpV plV at HON
  simp only at HON
  obtain ⟨E, hE⟩ : ∃ z, ckE wd hg g T H = z := ⟨_, rfl⟩
  rw [hE] at HC1 HFA HOR HWT HN12 ⊢
  obtain ⟨ob, hob⟩ : ∃ z, onB wd hg (x, y) = z := ⟨_, rfl⟩
  rw [hob] at HON HWT ⊢
  obtain ⟨rb, hrb⟩ : ∃ z, wiB rise 0 200 = z := ⟨_, rfl⟩
  rw [hrb] at HVT HWT ⊢
  obtain ⟨kb, hk⟩ : ∃ z, wiB tick 0 1048576 = z := ⟨_, rfl⟩
  rw [hk] at HVK ⊢
  obtain ⟨fa, hf⟩ : ∃ z, faO H tick = z := ⟨_, rfl⟩
  rw [hf] at HFA HWT ⊢
  clear hE hob hrb hk hf
  have HA : Hid (∀ W', Below ((w.alloc (.cells #[.int .i64 wd, .int .i64 hg, .slice oa g.length oc, .slice ta T.length tc, hv] 28)).alloc (.cells #[.int .i64 x, .int .i64 y] 30)).heap.size ((w.alloc (.cells #[.int .i64 wd, .int .i64 hg, .slice oa g.length oc, .slice ta T.length tc, hv] 28)).alloc (.cells #[.int .i64 x, .int .i64 y] 30)) W' → W'.cell? ⟨w.heap.size, 0, none⟩ = some (.int .i64 wd) ∧ W'.cell? ⟨w.heap.size, 1, none⟩ = some (.int .i64 hg) ∧ W'.cell? ⟨w.heap.size, 2, none⟩ = some (.slice oa g.length oc) ∧ W'.cell? ⟨w.heap.size, 3, none⟩ = some (.slice ta T.length tc) ∧ W'.cell? ⟨w.heap.size, 4, none⟩ = some hv ∧ W'.cell? ⟨w.heap.size + 1, 0, none⟩ = some (.int .i64 x) ∧ W'.cell? ⟨w.heap.size + 1, 1, none⟩ = some (.int .i64 y) ∧ Below w.heap.size w W') := Lib.hid (fun W' h => by
    obtain ⟨a, b, _, d⟩ := two_cells w _ _ _ _ h
    exact ⟨cellH a 0, cellH a 1, cellH a 2, cellH a 3, cellH a 4, cellH b 0, cellH b 1, d⟩)
  obtain ⟨W1, hW1⟩ : ∃ X, (w.alloc (.cells #[.int .i64 wd, .int .i64 hg, .slice oa g.length oc, .slice ta T.length tc, hv] 28)).alloc (.cells #[.int .i64 x, .int .i64 y] 30) = X := ⟨_, rfl⟩
  rw [hW1] at HA
  have HW1 := Lib.hid hW1
  have HRD := HA
  have HB0 := Lib.hid (HA.out W1 (Below.refl _ _)).2.2.2.2.2.2.2
  clear hW1 HA
  unfold coV at HC1 HFA
  unfold coV
  go_enter Tryz.func11, Tryz.ntmps11
  go_wp2_with fail
  rw [HW1.out]
  obtain ⟨q0, q1, q2, q3, q4, q5, q6, _⟩ := HRD.out W1 (Below.refl _ _)
  go_wp2_with fail
  refine (HC1.out _ HB0.out).mono ?_
  rintro e w2 ⟨rfl, hb2⟩
  have HD2 := Lib.hid hb2
  have HB2 := Lib.hid (HB0.out.trans (hb2.mono HB0.out.size))
  clear hb2 q0 q1 q2 q3 q4 q5 q6
  by_cases hE0 : E = 0
  case neg =>
    have qe : (E != 0) = true := by simpa using hE0
    have HE0 := Lib.hid hE0
    clear hE0
    go_wp2_with fail
    go_ret2
    unfold WaOut
    exact ⟨_, by first | rfl | (rw [if_neg HE0.out]; rfl), HB2.out, fun _ => rfl, fun h => by first | exact absurd h HE0.out | (rw [if_neg HE0.out] at h; exact absurd h HE0.out)⟩
  subst hE0
  obtain ⟨q0, q1, q2, q3, q4, q5, q6, _⟩ := HRD.out _ HD2.out
  go_wp2_with fail
  clear q0 q1 q2 q3 q4 q5 q6
  refine (HON.out _).mono ?_
  rintro e w4 ⟨rfl, hb4⟩
  have HD4 := Lib.hid (HD2.out.trans (hb4.mono HD2.out.size))
  have HB4 := Lib.hid (HB2.out.trans (hb4.mono HB2.out.size))
  clear hb4
  cases ob
  · go_wp2_with fail
    go_ret2
    unfold WaOut
    exact ⟨_, rfl, HB4.out, fun _ => rfl, fun h => by cases h⟩
  go_wp2_with fail
  refine (HVT.out _).mono ?_
  rintro e w5 ⟨rfl, rfl⟩
  cases rb
  · go_wp2_with fail
    go_ret2
    unfold WaOut
    exact ⟨_, rfl, HB4.out, fun _ => rfl, fun h => by cases h⟩
  go_wp2_with fail
  refine (HVK.out _).mono ?_
  rintro e w6 ⟨rfl, rfl⟩
  cases kb
  · go_wp2_with fail
    go_ret2
    unfold WaOut
    exact ⟨_, rfl, HB4.out, fun _ => rfl, fun h => by cases h⟩
  obtain ⟨q0, q1, q2, q3, q4, q5, q6, _⟩ := HRD.out _ HD4.out
  go_wp2_with fail
  clear q0 q1 q2 q3 q4 q5 q6
  refine (HOR.out (by trivial) _ HB4.out).mono ?_
  rintro e w7 ⟨V, L, rfl, hr, hO, hb7⟩
  have HD7 := Lib.hid (HD4.out.trans (hb7.mono HD4.out.size))
  have HB7 := Lib.hid (HB4.out.trans (hb7.mono HB4.out.size))
  have HR := Lib.hid hr
  have HO := Lib.hid hO
  have HL12 : Hid (L.length ≤ 12) := Lib.hid (by have h1 := hO.1.length_eq; have h2 := HN12.out (by trivial); omega)
  have HWL := Lib.hid (idK_wt g wd L (x, y) rise fa)
  have HMB : Hid (mTo (seI g wd L (x, y) rise fa) L.length < 4096) := Lib.hid (Nat.lt_of_lt_of_le (mTo_lt _ _) (pow_bd HL12.out))
  obtain ⟨va, vc, rfl, _⟩ := hr.form
  have HWK := Lib.hid (fun w' (h : Below w7.heap.size w7 w') => HWT.out (by trivial) (by trivial) (by trivial) _ L w' (HB7.out.trans (h.mono HB7.out.size)) (HR.out.keep h) HO.out)
  obtain ⟨m, hmm⟩ : ∃ m, mTo (seI g wd L (x, y) rise fa) L.length = m := ⟨_, rfl⟩
  rw [hmm] at HWL HMB HWK
  clear hb7 hr hO hmm
  have KA : Hid (∀ W', Below w7.heap.size w7 W' → W'.cell? ⟨w.heap.size, 0, none⟩ = some (.int .i64 wd) ∧ W'.cell? ⟨w.heap.size, 1, none⟩ = some (.int .i64 hg) ∧ W'.cell? ⟨w.heap.size, 2, none⟩ = some (.slice oa g.length oc) ∧ W'.cell? ⟨w.heap.size, 3, none⟩ = some (.slice ta T.length tc) ∧ W'.cell? ⟨w.heap.size, 4, none⟩ = some hv ∧ W'.cell? ⟨w.heap.size + 1, 0, none⟩ = some (.int .i64 x) ∧ W'.cell? ⟨w.heap.size + 1, 1, none⟩ = some (.int .i64 y)) := Lib.hid (fun W' h => by
    obtain ⟨z0, z1, z2, z3, z4, z5, z6, _⟩ := HRD.out W' (HD7.out.trans (h.mono HD7.out.size))
    exact ⟨z0, z1, z2, z3, z4, z5, z6⟩)
  have CF : Hid (∀ w', Below w7.heap.size w7 w' → Calls Tryz.prog 30 #[.agg #[.int .i64 wd, .int .i64 hg, .slice oa g.length oc, .slice ta T.length tc, hv], .int .i64 tick] w' fun e w'' => e = .returned (.int .i64 fa) ∧ Below w7.heap.size w7 w'') := Lib.hid (fun w' h => (HFA.out (by trivial) w' (HB7.out.trans (h.mono HB7.out.size))).mono fun e w'' ⟨he, hh⟩ => ⟨he, h.trans (hh.mono h.size)⟩)
  have CI : Hid (∀ w', Below w7.heap.size w7 w' → Calls Tryz.prog 44 #[.agg #[.int .i64 wd, .int .i64 hg, .slice oa g.length oc], .slice va L.length vc, .agg #[.int .i64 x, .int .i64 y], .int .i64 rise, .int .i64 fa] w' fun e w'' => e = .returned (.int .u64 (m : Nat)) ∧ Below w7.heap.size w7 w'') := Lib.hid (fun w' h => (HWK.out w' h).mono fun e w'' ⟨he, hh⟩ => ⟨he, h.trans (hh.mono h.size)⟩)
  go_wp2_with fail
  refine wp_region_turn 10 (fun _ w' => Below w7.heap.size w7 w') (by kernel_rfl) (by kernel_rfl) ((Below.refl _ w7).drew) ?_
  simp only [List.take_succ_cons, List.take_zero, List.drop_succ_cons, List.drop_zero]
  iterate 10
    (first
      | (apply turnC_step (by rfl); (intro w' hw'; go_simp; exact CF.out w' hw'))
      | (apply turnC_step (by rfl); (intro w' hw'; go_simp; exact CI.out w' hw'))
      | (apply turnC_step (by rfl); (intro w' hw'; obtain ⟨y0, y1, y2, y3, y4, y5, y6⟩ := KA.out w' hw'; go_simp; first | exact ⟨hw', rfl⟩ | exact rfl)))
    simp only [Act.put, List.setIfInBounds_toArray, List.set_cons_succ, List.set_cons_zero]
  intro listed w8 _ hw8
  have HB8 := Lib.hid (HB7.out.trans (hw8.mono HB7.out.size))
  have HID := Lib.hid (idsOf_any _ L m w8 (HR.out.keep hw8) HL12.out HMB.out)
  clear hw8 KA CF CI HWK
  go_wp2_with fail
  refine HID.out.mono ?_
  rintro e w9 ⟨v9, rfl, hb9, hown⟩
  have HB9 := Lib.hid (HB8.out.trans (hb9.mono HB8.out.size))
  have HOW : Hid (w9.ownsRow w.heap.size 3 1 v9 (wtL g wd L (x, y) rise fa).length ((wtL g wd L (x, y) rise fa).map (Value.int .i64 ·))) := Lib.hid (by rw [← HWL.out]; exact own_base hown HB8.out.size)
  clear hb9 hown HID
  go_wp2_with fail
  go_ret2
  unfold WaOut
  exact ⟨_, rfl, HB9.out, fun h => absurd rfl h, fun _ => ⟨L, HO.out, HOW.out⟩⟩
end Go.Proofs.YtnacgogcbbpjmaaGreat
