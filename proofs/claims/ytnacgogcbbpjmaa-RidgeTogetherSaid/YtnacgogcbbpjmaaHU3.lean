/- meets, sets and Fewest of package ridge. -/
import Derived.Test.YtnacgogcbbpjmaaHU2
import Derived.Test.YtnacgogcbbpjmaaHA9
import Derived.Test.YtnacgogcbbpjmaaHP4
import Derived.Test.YtnacgogcbbpjmaaHN1
set_option linter.unusedVariables false
set_option linter.unusedSimpArgs false
namespace Go.Proofs.Ytnacgogcbbpjmaa
open Go Go.RowKit
attribute [local go_sem] Oper.semAt_some

/-- A slice of sets that reads as a list. -/
def MsRow (w : World) (v : Value) (n : Nat) (f : Nat → Nat) : Prop := ∃ a c, v = .slice a n c ∧ ∀ i, i < n → ∃ b off, a = some ⟨b, off, none⟩ ∧ b < w.heap.size ∧ w.cell? ⟨b, off + i, none⟩ = some (.int .u64 (f i : Nat))
theorem MsRow.keep {w w' : World} {v : Value} {n : Nat} {f : Nat → Nat} (h : MsRow w v n f) (hb : Below w.heap.size w w') : MsRow w' v n f := by
  obtain ⟨a, c, rfl, h2⟩ := h
  refine ⟨a, c, rfl, fun i hi => ?_⟩
  obtain ⟨b, off, ha, hb1, hc⟩ := h2 i hi
  exact ⟨b, off, ha, Nat.lt_of_lt_of_le hb1 hb.size, (hb.cell (p := ⟨b, _, none⟩) hb1).trans hc⟩
theorem MsRow.of_own {w : World} {base : Nat} {v : Value} {g : List Int} {wd : Int} {L : List Tw} {rise far : Int} {n : Nat} (h : w.ownsRow base 87 1 v n (wdL g wd L rise far n)) : MsRow w v n (wmN g wd L rise far) := by
  have h1 : w.ownsRow base 87 1 v (wdL g wd L rise far n).length (wdL g wd L rise far n) := by rw [wdL_len]; exact h
  rcases own_row1 h1 with ⟨rfl, h2⟩ | ⟨b, c, h2, _, _, h4, h5⟩
  · have h3 : n = 0 := by rw [← wdL_len g wd L rise far n, h2]; rfl
    subst h3
    exact ⟨_, _, rfl, fun i hi => by omega⟩
  · rw [wdL_len] at h2
    exact ⟨_, _, h2, fun i hi => ⟨b, 0, rfl, h4, by rw [Nat.zero_add]; exact h5 i _ (wdL_get hi)⟩⟩
theorem and_nat {a b : Nat} (ha : a < 4096) (hb : b < 4096) : bits .and .u64 (a : Int) (b : Int) = ((a &&& b : Nat) : Int) := by
  have e2 : ∀ n : Nat, BitVec.ofInt 64 (n : Int) = BitVec.ofNat 64 n := fun n => by simp
  have e4 : (BitVec.ofNat 64 a &&& BitVec.ofNat 64 b).toNat = a &&& b := by
    rw [BitVec.toNat_and, BitVec.toNat_ofNat, BitVec.toNat_ofNat, Nat.mod_eq_of_lt (by omega), Nat.mod_eq_of_lt (by omega)]
  show IntKind.u64.wrap ((BitVec.ofInt 64 (a : Int) &&& BitVec.ofInt 64 (b : Int)).toNat : Int) = _
  rw [e2, e2, e4]
  exact u64_nat (by have := Nat.and_le_left (n := a) (m := b); omega)
/-- A set has a tower of each of some others that are not empty. -/
def mtB (f : Nat → Nat) (m n : Nat) : Bool := (List.range n).all fun i => f i == 0 || (m &&& f i) != 0
set_option maxRecDepth 100000 in
set_option maxHeartbeats 4000000 in
theorem meets_any (m : Nat) (v : Value) (n : Nat) (f : Nat → Nat) (w : World) (hv : MsRow w v n f) (hm : m < 4096) (hf : ∀ i, f i < 4096) (hn : n ≤ 1000000) :
    Calls Try.prog 42 #[.int .u64 (m : Nat), v] w fun e w' => e = .returned (.bool (mtB f m n)) ∧ Below w.heap.size w w' := by
  obtain ⟨a, c, rfl, hc⟩ := hv
  have HC := Lib.hid hc
  have HAN := Lib.hid (fun i => and_nat hm (hf i))
  clear hc hm hf
  go_enter Try.func42, Try.ntmps42
  go_wp2_with fail
  go_loopw [9] (fun i wr => ∃ (k : Nat), k ≤ n ∧ i = .int .i64 k ∧ Hid (∀ j, j < k → (f j == 0 || (m &&& f j) != 0) = true) ∧ Hid (Below w.heap.size w wr)) (fun i _ => n - (intOf i).toNat)
  case atStart => exact ⟨0, Nat.zero_le _, rfl, Lib.hid (fun j hj => by omega), Lib.hid (Below.refl _ _)⟩
  case round =>
    obtain ⟨k, hk, rfl, hT, hB⟩ := hrel
    by_cases hkl : k < n
    · obtain ⟨b, off, rfl, hb, c0⟩ := HC.out k hkl
      have hki : (k : Int) < n := by omega
      have hk0 : (0 : Int) ≤ k := by omega
      have e0 := (hB.out.cell (p := ⟨b, _, none⟩) hb).trans c0
      have hand := HAN.out k
      have HNX : Hid ((f k == 0 || (m &&& f k) != 0) = true → ∀ j, j < k + 1 → (f j == 0 || (m &&& f j) != 0) = true) := Lib.hid (fun h j hj => by
        by_cases e : j = k
        · subst e; exact h
        · exact hT.out j (by omega))
      have HFL : Hid ((f k == 0 || (m &&& f k) != 0) = false → mtB f m n = false) := Lib.hid (fun h => by
        unfold mtB
        rw [List.all_eq_false]
        exact ⟨k, List.mem_range.2 hkl, by rw [h]; decide⟩)
      obtain ⟨o, ho⟩ : ∃ o, f k = o := ⟨_, rfl⟩
      rw [ho] at e0 hand HNX HFL
      obtain ⟨r, hr⟩ : ∃ r, m &&& o = r := ⟨_, rfl⟩
      rw [hr] at hand HNX HFL
      clear c0 hb ho hr
      by_cases hz : o = 0
      · subst hz
        have HN := Lib.hid (HNX.out rfl)
        clear HNX HFL hand
        go_wp2_with fail
        go_roundw
        case rel => exact ⟨k + 1, by omega, by go_num, HN, hB⟩
        case measure => simp [intOf]; omega
      · have hz1 : ((o : Int) != 0) = true := by simp; omega
        by_cases hz2 : r = 0
        · subst hz2
          have HF := Lib.hid (HFL.out (by simp [hz]))
          clear HNX HFL hz
          go_wp2_with fail
          go_ret
          exact ⟨by rw [HF.out]; rfl, hB.out⟩
        · have HN := Lib.hid (HNX.out (by simp [hz2]))
          have hz3 : ((r : Int) == 0) = false := by simp; omega
          clear HNX HFL hz hz2
          go_wp2_with fail
          go_roundw
          case rel => exact ⟨k + 1, by omega, by go_num, HN, hB⟩
          case measure => simp [intOf]; omega
    · obtain rfl : k = n := by omega
      have HT : Hid (mtB f m k = true) := Lib.hid (by
        unfold mtB
        rw [List.all_eq_true]
        exact fun j hj => hT.out j (List.mem_range.1 hj))
      go_wp2_with fail
      go_ret
      exact ⟨by rw [HT.out]; rfl, hB.out⟩
theorem sets_any (n : Int) (w : World) : Calls Try.prog 41 #[.int .i64 n] w fun e w' => e = .returned (.func (.func 64) #[] #[.pointer (some ⟨w.heap.size, 0, none⟩)]) ∧ w' = w.alloc (.cells #[.int .i64 n] 3) := by
  go_enter Try.func41, Try.ntmps41
  go_wp2_with fail
  go_ret
  exact ⟨rfl, rfl⟩
theorem fw_results {tmps : Array Value} {w : World} {A B : Nat} {v e : Value} (h : tmps.getD 6 undef = .pointer (some ⟨A, 0, none⟩)) (h2 : tmps.getD 7 undef = .pointer (some ⟨B, 0, none⟩)) (hg : w.cell? ⟨A, 0, none⟩ = some v) (hg2 : w.cell? ⟨B, 0, none⟩ = some e) : (results Try.f13 tmps).run Try.prog w = .ok (.tuple #[v, e]) w := by
  have h' : tmps[6]?.getD undef = .pointer (some ⟨A, 0, none⟩) := by simpa using h
  have h2' : tmps[7]?.getD undef = .pointer (some ⟨B, 0, none⟩) := by simpa using h2
  simp [results, Try.results13, asAddr, h', h2', hg, hg2, go_sem]
/-- A list of numbers that lies in a block of its own. -/
def RwB (W : World) (v : Value) (l : List Int) : Prop :=
  (v = .slice none 0 0 ∧ l = []) ∨ ∃ b c C, v = .slice (some ⟨b, 0, none⟩) l.length c ∧ W.heap[b]? = some (Obj.cells C 3 (0, 0)) ∧ ∀ i, i < l.length → C[i]? = some (.int .i64 (l.getD i 0))
theorem RwB.of_own {w : World} {base : Nat} {v : Value} {l : List Int} (h : w.ownsRow base 3 1 v l.length (l.map (Value.int .i64 ·))) : RwB w v l := by
  rcases h.2 with ⟨h0, hn⟩ | ⟨g, cap, cur, hv, hg, hb, hn, hm, hs, ht⟩
  · exact .inl ⟨h0, List.eq_nil_of_length_eq_zero hn⟩
  · refine .inr ⟨g, cap, cur, hv, hb, fun i hi => ?_⟩
    have h1 : (cur.toList.take (l.length * 1))[i]? = (l.map (Value.int .i64 ·))[i]? := by rw [ht]
    rw [List.getElem?_take, if_pos (by omega), List.getElem?_map, List.getElem?_eq_getElem hi] at h1
    rw [List.getD_eq_getElem?_getD, List.getElem?_eq_getElem hi]
    simpa using h1
theorem RwB.keep {A B : World} {v : Value} {l : List Int} (h : RwB A v l) (hk : ∀ (b : Nat) (C : Array Value), A.heap[b]? = some (Obj.cells C 3 (0, 0)) → B.heap[b]? = some (Obj.cells C 3 (0, 0))) : RwB B v l := by
  rcases h with h | ⟨b, c, C, h1, h2, h3⟩
  · exact .inl h
  · exact .inr ⟨b, c, C, h1, hk b C h2, h3⟩
theorem RwB.row {W : World} {v : Value} {l : List Int} (h : RwB W v l) : INRow W v l := by
  rcases h with ⟨h1, h2⟩ | ⟨b, c, C, h1, h2, h3⟩
  · subst h2; exact .inl ⟨_, _, h1, rfl⟩
  · exact .inr ⟨b, 0, c, h1, (Array.getElem?_eq_some_iff.1 h2).1, fun i hi => by rw [Nat.zero_add, cellH h2]; exact h3 i hi⟩
theorem tw_eq {T : List Tw} {t u : Tw} (hk : (T.map Tw.id).Nodup) (ht : t ∈ T) (hu : u ∈ T) (h : t.id = u.id) : t = u := by
  obtain ⟨i, hi, rfl⟩ := List.getElem_of_mem ht
  obtain ⟨j, hj, rfl⟩ := List.getElem_of_mem hu
  have e : i = j := (List.getElem_inj (h₀ := by simpa using hi) (h₁ := by simpa using hj) hk).1 (by simpa using h)
  subst e; rfl
theorem land_ne {a b : Nat} : (a &&& b) ≠ 0 ↔ ∃ i, a.testBit i = true ∧ b.testBit i = true := by
  constructor
  · intro h
    obtain ⟨i, hi⟩ := Nat.exists_testBit_of_ne_zero h
    rw [Nat.testBit_and, Bool.and_eq_true] at hi
    exact ⟨i, hi⟩
  · rintro ⟨i, h1, h2⟩ h
    have h3 : (a &&& b).testBit i = true := by rw [Nat.testBit_and, h1, h2]; rfl
    rw [h] at h3; simp at h3
theorem mt_cov {g : List Int} {wd : Int} {T L : List Tw} {rise far : Int} {n : Nat} (hL : Ord L T) (hk : (T.map Tw.id).Nodup) {l : List Nat} (hp : l.Pairwise (· < ·)) (hm : ∀ i ∈ l, i < L.length) :
    mtB (wmN g wd L rise far) (mkB l) n = true ↔ CovR g wd T rise far n (l.map fun i => (L.getD i .nil).id) := by
  unfold mtB CovR
  rw [List.all_eq_true]
  constructor
  · intro h k hkn t ht hs
    have h1 := h k (List.mem_range.2 hkn)
    have h2 : wmN g wd L rise far k ≠ 0 := by
      intro h0
      exact (wmN_zero hL).1 h0 (List.any_eq_true.2 ⟨t, ht, hs⟩)
    have h3 : (mkB l &&& wmN g wd L rise far k) ≠ 0 := by simpa [h2] using h1
    obtain ⟨i, hi1, hi2⟩ := land_ne.1 h3
    rw [mkB_bit hp] at hi1
    have hil : i ∈ l := by simpa using hi1
    unfold wmN at hi2
    rw [mTo_bit, Bool.and_eq_true] at hi2
    have hiL := hm i hil
    refine ⟨L.getD i .nil, ?_, List.mem_map.2 ⟨i, hil, rfl⟩, hi2.2⟩
    rw [getD_tw hiL]; exact hL.1.mem_iff.1 (List.getElem_mem _)
  · intro h k hkn
    have hkn := List.mem_range.1 hkn
    by_cases h0 : wmN g wd L rise far k = 0
    · simp [h0]
    · have h1 : (T.any fun t => seB g wd t (plI wd k) rise far) = true := by
        by_cases q : (T.any fun t => seB g wd t (plI wd k) rise far) = true
        · exact q
        · exact absurd ((wmN_zero hL).2 q) h0
      obtain ⟨t, ht, hs⟩ := List.any_eq_true.1 h1
      obtain ⟨u, hu, hid, hus⟩ := h k hkn t ht hs
      obtain ⟨i, hil, hi⟩ := List.mem_map.1 hid
      have hiL := hm i hil
      have hui : L.getD i .nil = u := tw_eq hk (by rw [getD_tw hiL]; exact hL.1.mem_iff.1 (List.getElem_mem _)) hu hi
      have h3 : (mkB l &&& wmN g wd L rise far k) ≠ 0 := land_ne.2 ⟨i, by rw [mkB_bit hp]; simpa using hil, by
        unfold wmN
        rw [mTo_bit, Bool.and_eq_true]
        refine ⟨by simpa using hiL, ?_⟩
        unfold seI
        rw [hui]; exact hus⟩
      simp [h3]
theorem ord_mono {T L : List Tw} (hL : Ord L T) : ∀ i j, i < j → j < L.length → (L.getD i .nil).id < (L.getD j .nil).id := fun i j hij hj => by
  rw [getD_tw (by omega), getD_tw hj]
  exact List.pairwise_iff_getElem.1 hL.2 i j _ _ hij
theorem ids_cnd {T L : List Tw} (hL : Ord L T) {l : List Nat} (hp : l.Pairwise (· < ·)) (hm : ∀ i ∈ l, i < L.length) : CndR T (l.map fun i => (L.getD i .nil).id) := by
  refine ⟨?_, fun x hx => ?_⟩
  · rw [List.pairwise_map]
    exact List.Pairwise.imp_of_mem (fun {a b} ha hb h => ord_mono hL a b h (hm b hb)) hp
  · obtain ⟨i, hi, rfl⟩ := List.mem_map.1 hx
    refine ⟨L.getD i .nil, ?_, rfl⟩
    rw [getD_tw (hm i hi)]; exact hL.1.mem_iff.1 (List.getElem_mem _)
/-- Each list of IDs of towers is that of a list of indices. -/
theorem cnd_ids {T L : List Tw} (hL : Ord L T) {S : List Int} (h : CndR T S) : ∃ l ∈ ssI L.length, S = l.map fun i => (L.getD i .nil).id := by
  refine ⟨(List.range L.length).filter (fun i => decide ((L.getD i .nil).id ∈ S)), ?_, ?_⟩
  · rw [ssI_mem]
    exact ⟨List.pairwise_lt_range.sublist List.filter_sublist, fun i hi => List.mem_range.1 (List.mem_filter.1 hi).1⟩
  · rw [← idK_range, idK_is (P := fun t => decide (t.id ∈ S)) (fun i _ => rfl) L.length (Nat.le_refl _), List.take_length]
    have h2 := cnd_filter hL h
    rw [List.filter_map] at h2
    exact h2.symm
theorem fw_of {g : List Int} {wd : Int} {T L : List Tw} {rise far : Int} {n : Nat} (hL : Ord L T) (hk : (T.map Tw.id).Nodup) {pre : List Nat} {x : Nat} (hp : pre ++ [x] <+: ssL L.length) (h0 : ∀ m ∈ pre, mtB (wmN g wd L rise far) m n = false) (h1 : mtB (wmN g wd L rise far) x n = true) :
    FwR g wd T rise far n (idK L x.testBit L.length) := by
  obtain ⟨rest, hr⟩ := hp
  have hf : (ssL L.length).find? (fun m => mtB (wmN g wd L rise far) m n) = some x := by
    rw [← hr, List.find?_append, List.find?_append]
    rw [List.find?_eq_none.2 (fun m hm => by rw [h0 m hm]; decide)]
    simp [h1]
  rw [ssL_ssI, List.find?_map] at hf
  obtain ⟨l0, hl0, rfl⟩ := Option.map_eq_some_iff.1 hf
  have hl1 := List.mem_of_find?_eq_some hl0
  have hl2 : mtB (wmN g wd L rise far) (mkB l0) n = true := h1
  obtain ⟨hp0, hm0⟩ := (ssI_mem _ _).1 hl1
  rw [idK_mkB hp0 hm0]
  refine ⟨ids_cnd hL hp0 hm0, (mt_cov hL hk hp0 hm0).1 hl2, fun S hS hC => ?_⟩
  obtain ⟨l, hl, rfl⟩ := cnd_ids hL hS
  obtain ⟨hp3, hm3⟩ := (ssI_mem _ _).1 hl
  rcases find_first (ssI_bf (N := L.length) (f := fun i => (L.getD i .nil).id) (ord_mono hL)) hl0 l hl ((mt_cov hL hk hp3 hm3).2 hC) with rfl | h
  · exact bf_irr _
  · exact bf_asym h
theorem fw_some {g : List Int} {wd : Int} {T L : List Tw} {rise far : Int} {n : Nat} (hL : Ord L T) (hk : (T.map Tw.id).Nodup) : ∃ m ∈ ssL L.length, mtB (wmN g wd L rise far) m n = true := by
  have h1 : (List.range L.length).Pairwise (· < ·) := List.pairwise_lt_range
  have h2 : ∀ i ∈ List.range L.length, i < L.length := fun i hi => List.mem_range.1 hi
  refine ⟨mkB (List.range L.length), ?_, (mt_cov hL hk h1 h2).2 fun k _ t ht hs => ⟨t, ht, ?_, hs⟩⟩
  · rw [ssL_ssI]
    exact List.mem_map.2 ⟨_, (ssI_mem _ _).2 ⟨h1, h2⟩, rfl⟩
  · obtain ⟨i, hi, rfl⟩ := List.getElem_of_mem (hL.1.mem_iff.2 ht)
    exact List.mem_map.2 ⟨i, List.mem_range.2 hi, by rw [getD_tw hi]⟩
theorem ssL_bd {N m : Nat} (hN : N ≤ 12) (h : m ∈ ssL N) : m < 4096 := by
  rw [ssL_ssI] at h
  obtain ⟨l, hl, rfl⟩ := List.mem_map.1 h
  obtain ⟨h1, h2⟩ := (ssI_mem _ _).1 hl
  exact Nat.lt_of_lt_of_le (mkB_lt h1 h2) (pow_bd hN)
set_option maxRecDepth 100000 in
set_option maxHeartbeats 8000000 in
theorem Fewest_ok (wd hg : Int) (o tv hv : Value) (g : List Int) (T : List Tw) (H : List Hz) (rise tick : Int) (w : World) (ho : INRow w o g) (hl : g.length ≤ 9223372036854775807) (ht : TwRow w tv T) (htl : T.length ≤ 9223372036854775807) (hh : HzRow w hv H) (hhl : H.length ≤ 9223372036854775807) (hcv : cvE wd hg g T H rise tick = 0) :
    Calls Try.prog 13 #[coV wd hg o tv hv, .int .i64 rise, .int .i64 tick] w fun e w' => ∃ v' R, e = .returned (.tuple #[v', .int .i64 0]) ∧ Below w.heap.size w w' ∧ INRow w' v' R ∧ FwR g wd T rise (faO H tick) g.length R := by
  obtain ⟨hck, hri⟩ := cvE_ok hcv
  have HCV := Lib.hid (fun w' (h : Below w.heap.size w w') => by have := checkView_any wd hg o tv hv g T H rise tick w' (ho.keep h) hl (ht.keep h) htl (hh.keep h) hhl; rw [hcv] at this; exact this)
  have HWD := Lib.hid (fun w' (h : Below w.heap.size w w') => watched_any wd hg o tv hv g T H rise tick w' (ho.keep h) (ht.keep h) (hh.keep h) hck hri)
  obtain ⟨hm, hn12, _, _, hnd, _⟩ := ckE_ok hck
  have HOR := Lib.hid (fun w' (h : Below w.heap.size w w') => ordered_any tv T w' (ht.keep h) hn12 hnd)
  have hgm : g.length ≤ 2401 := by
    obtain ⟨a1, a2, a3, a4, a5, _⟩ := vmB_ok hm
    have h1 : wd * hg ≤ 49 * 49 := Int.mul_le_mul a2 a4 (by omega) (by omega)
    omega
  have HGM := Lib.hid hgm
  have HN12 := Lib.hid hn12
  have HND := Lib.hid hnd
  obtain ⟨oa, oc, rfl, _⟩ := ho.form
  obtain ⟨ta, tc, rfl, _⟩ := ht.form
  have HA : Hid (∀ W', Below (((w.alloc (.cells #[.int .i64 wd, .int .i64 hg, .slice oa g.length oc, .slice ta T.length tc, hv] 28)).alloc (.cells #[.slice none 0 0] 22)).alloc (.cells #[.int .i64 0] 33)).heap.size (((w.alloc (.cells #[.int .i64 wd, .int .i64 hg, .slice oa g.length oc, .slice ta T.length tc, hv] 28)).alloc (.cells #[.slice none 0 0] 22)).alloc (.cells #[.int .i64 0] 33)) W' → W'.cell? ⟨w.heap.size, 0, none⟩ = some (.int .i64 wd) ∧ W'.cell? ⟨w.heap.size, 1, none⟩ = some (.int .i64 hg) ∧ W'.cell? ⟨w.heap.size, 2, none⟩ = some (.slice oa g.length oc) ∧ W'.cell? ⟨w.heap.size, 3, none⟩ = some (.slice ta T.length tc) ∧ W'.cell? ⟨w.heap.size, 4, none⟩ = some hv ∧ W'.heap[w.heap.size + 1]? = some (Obj.cells #[.slice none 0 0] 22 (0, 0)) ∧ W'.heap[w.heap.size + 2]? = some (Obj.cells #[.int .i64 0] 33 (0, 0)) ∧ Below w.heap.size w W') := Lib.hid (fun W' h => by
    obtain ⟨a, b, c, _, d⟩ := three_cells w _ _ _ _ _ _ h
    exact ⟨cellH a 0, cellH a 1, cellH a 2, cellH a 3, cellH a 4, b, c, d⟩)
  obtain ⟨W1, hW1⟩ : ∃ X, ((w.alloc (.cells #[.int .i64 wd, .int .i64 hg, .slice oa g.length oc, .slice ta T.length tc, hv] 28)).alloc (.cells #[.slice none 0 0] 22)).alloc (.cells #[.int .i64 0] 33) = X := ⟨_, rfl⟩
  rw [hW1] at HA
  have HW1 := Lib.hid hW1
  have HRD := HA
  have HB0 := Lib.hid (HA.out W1 (Below.refl _ _)).2.2.2.2.2.2.2
  have HS1 : Hid (W1.heap.size = w.heap.size + 3) := Lib.hid (by rw [← hW1]; simp)
  obtain ⟨far, hfar⟩ : ∃ x, faO H tick = x := ⟨_, rfl⟩
  rw [hfar] at HWD ⊢
  clear hW1 HA ho ht hh hl htl hhl hcv hck hri hm hn12 hnd hgm hfar
  unfold coV at HCV HWD
  unfold coV
  refine callsIn_wide.1 (?_ : CallsIn Fence.wide 7 _ _ _ _ _)
  refine callsIn_of_wp_marks Try.func13 rfl trivial ?_ rfl
  simp only [Try.ntmps13, List.size_toArray, List.length_cons, List.length_nil, Nat.reduceAdd, Nat.reduceSub, Array.replicate_succ, Array.replicate_zero, List.push_toArray, List.append_toArray, List.nil_append, List.cons_append]
  refine wpIn_wide.2 ?_
  go_wp2_with fail
  rw [HW1.out]
  obtain ⟨q0, q1, q2, q3, q4, _, _, _⟩ := HRD.out W1 (Below.refl _ _)
  go_wp2_with fail
  refine (HCV.out _ HB0.out).mono ?_
  rintro e w2 ⟨rfl, hb2⟩
  have HD2 := Lib.hid hb2
  have HB2 := Lib.hid (HB0.out.trans (hb2.mono HB0.out.size))
  clear hb2 q0 q1 q2 q3 q4
  obtain ⟨q0, q1, q2, q3, q4, _, _, _⟩ := HRD.out w2 HD2.out
  go_wp2_with fail
  refine (HWD.out _ HB2.out).mono ?_
  rintro e w5 ⟨v5, L, rfl, hb5, hO, hown⟩
  have hmr := MsRow.of_own hown
  have HMR := Lib.hid hmr
  have HORD := Lib.hid hO
  have HD5 := Lib.hid (HD2.out.trans (hb5.mono HD2.out.size))
  have HB5 := Lib.hid (HB2.out.trans (hb5.mono HB2.out.size))
  obtain ⟨va, vc, rfl, _⟩ := hmr
  clear hb5 hO hown q0 q1 q2 q3 q4
  have hY := (Below.refl _ w5).alloc (Nat.le_refl _) (.cells #[.slice va g.length vc] 84)
  have HDY := Lib.hid (HD5.out.trans (hY.mono HD5.out.size))
  have HBY := Lib.hid (HB5.out.trans (hY.mono HB5.out.size))
  have HMY := Lib.hid (HMR.out.keep hY)
  have HVY : Hid ((w5.alloc (.cells #[.slice va g.length vc] 84)).heap[w5.heap.size]? = some (.cells #[.slice va g.length vc] 84 (0, 0))) := Lib.hid (heap_alloc_new _ _)
  obtain ⟨q0, q1, q2, q3, q4, _, _, _⟩ := HRD.out _ HDY.out
  go_wp2_with fail
  obtain ⟨Yw, hYw⟩ : ∃ X, w5.alloc (.cells #[.slice va g.length vc] 84) = X := ⟨_, rfl⟩
  rw [hYw] at HDY HBY HMY HVY ⊢
  obtain ⟨s5, hs5⟩ : ∃ x, w5.heap.size = x := ⟨_, rfl⟩
  rw [hs5] at HVY ⊢
  clear hYw hY hs5 q0 q1 q2 q3 q4
  refine (sets_any _ Yw).mono ?_
  rintro e w6 ⟨rfl, hw6⟩
  have hb6 : Below Yw.heap.size Yw w6 := by rw [hw6]; exact (Below.refl _ Yw).alloc (Nat.le_refl _) _
  have HNB : Hid (w6.heap[Yw.heap.size]? = some (.cells #[.int .i64 T.length] 3 (0, 0))) := Lib.hid (by rw [hw6]; exact heap_alloc_new _ _)
  have HD6 := Lib.hid (HDY.out.trans (hb6.mono HDY.out.size))
  have HB6 := Lib.hid (HBY.out.trans (hb6.mono HBY.out.size))
  have HM6 := Lib.hid (HMY.out.keep hb6)
  have HV6 := Lib.hid ((hb6.block _ (Array.getElem?_eq_some_iff.1 HVY.out).1).trans HVY.out)
  have HLL : Hid (L.length = T.length) := Lib.hid HORD.out.1.length_eq
  obtain ⟨NB, hNB⟩ : ∃ x, Yw.heap.size = x := ⟨_, rfl⟩
  rw [hNB] at HNB ⊢
  clear hw6 hb6 hNB
  go_wp2_with fail
  refine wpIn_wide.1 (?_ : Code.wpIn Fence.wide 7 _ _ _ _ _)
  refine rangeN (n := 7) (gf := 64) (lb := #[.pointer (some ⟨NB, 0, none⟩)]) rfl (enters_of Try.func64 (by kernel_rfl) rfl)
    (sets1_seq 6 T.length NB HN12.out) ?st (fun A B h => KpA.of_below h) (fun _ _ _ h k => h.trans k) (fun Y l ob ob' _ h hc _ => KpP.putObj h hc) (fun _ => rfl)
    (fun pre Y => (∀ m ∈ pre, mtB (wmN g wd L rise far) m g.length = false) ∧ Below w6.heap.size w6 Y)
    (fun c pre Y => c = .ret ∧ Below w.heap.size w Y ∧ ∃ pre0 x v, pre = pre0 ++ [x] ∧ (∀ m ∈ pre0, mtB (wmN g wd L rise far) m g.length = false) ∧ mtB (wmN g wd L rise far) x g.length = true ∧ Y.heap[w.heap.size + 1]? = some (Obj.cells #[v] 22 (0, 0)) ∧ Y.heap[w.heap.size + 2]? = some (Obj.cells #[.int .i64 0] 33 (0, 0)) ∧ RwB Y v (idK L x.testBit L.length)) ?i ?ix ?ii ?iix ?h0
    (fun x a' Y => a' = { tmps := #[.agg #[.int .i64 wd, .int .i64 hg, .slice oa g.length oc, .slice ta T.length tc, hv], .int .i64 rise, .int .i64 tick, .pointer (some ⟨w.heap.size, 0, none⟩), undef, undef, .pointer (some ⟨w.heap.size + 1, 0, none⟩), .pointer (some ⟨w.heap.size + 1 + 1, 0, none⟩), .int .i64 0, .pointer (some ⟨s5, 0, none⟩), .int .u64 (x : Nat), .agg #[.int .i64 wd, .int .i64 hg, .slice oa g.length oc, .slice ta T.length tc, hv], .int .i64 rise, .int .i64 tick, .int .i64 0, .int .i64 0, .bool false, undef, .agg #[.int .i64 wd, .int .i64 hg, .slice oa g.length oc, .slice ta T.length tc, hv], .int .i64 rise, .int .i64 tick, .slice va g.length vc, .pointer (some ⟨w.heap.size, 3, none⟩), .slice ta T.length tc, .int .i64 T.length, .func (.func 64) #[] #[.pointer (some ⟨NB, 0, none⟩)], .int .u64 (x : Nat), undef, undef, undef, undef, undef, undef, undef, undef], defers := [] }) ?hv ?assign ?body ?done ?stop
  case st =>
    intro ob ob'
    have h1 := HNB.out
    have h2 := (Array.getElem?_eq_some_iff.1 h1).1
    exact (Below.heap_alloc _ _ _ (by simp; omega)).trans ((Below.heap_alloc _ _ _ h2).trans h1)
  case i => exact fun s A B row h hg hr => ⟨h.1, h.2.grown hg h.2.size (fun r e => (hr r e).1)⟩
  case ix =>
    rintro c s A B row ⟨hc, hB, pre0, x, v, hs, h0, h1, hr1, hr2, hrw⟩ hg hr
    have hsz := HD6.out.size
    have hs1 := HS1.out
    refine ⟨hc, hB.grown hg hB.size (fun r e => by have := (hr r e).1; omega), pre0, x, v, hs, h0, h1, (hg.block _ (Array.getElem?_eq_some_iff.1 hr1).1 (fun e => by have := (hr _ e.symm).1; omega)).trans hr1, (hg.block _ (Array.getElem?_eq_some_iff.1 hr2).1 (fun e => by have := (hr _ e.symm).1; omega)).trans hr2, hrw.keep fun b C h => ?_⟩
    refine (hg.block _ (Array.getElem?_eq_some_iff.1 h).1 (fun e => ?_)).trans h
    obtain ⟨_, o, ho, hc⟩ := hr _ e.symm
    rw [h] at ho; cases ho; cases hc
  case ii => exact fun s A B h k => ⟨h.1, k.below h.2 (by omega)⟩
  case iix =>
    rintro c s A B ⟨hc, hB, pre0, x, v, hs, h0, h1, hr1, hr2, hrw⟩ k
    have hsz := HD6.out.size
    have hs1 := HS1.out
    exact ⟨hc, k.below hB (by omega), pre0, x, v, hs, h0, h1, (k.low _ (by omega)).trans hr1, (k.low _ (by omega)).trans hr2, hrw.keep fun b C h => (k.cells _ _ _ _ h (by decide)).trans h⟩
  case h0 => exact ⟨fun m hm => by simp at hm, Below.refl _ _⟩
  case hv => exact fun x a' _ A B row h hg hr => h
  case assign =>
    intro l' pre x Y K hI hK
    gi_wp2
    refine hK _ _ (Below.refl _ _) ?_
    simp [go_sem]
  case body =>
    rintro l' pre x a' Y ⟨hall, hBY⟩ rfl hlt
    have hxl : x ∈ ssL T.length := hlt.subset (by simp)
    have hx := ssL_bd HN12.out hxl
    have HMM := Lib.hid (fun w' (h : Below Y.heap.size Y w') => meets_any x (.slice va g.length vc) g.length (wmN g wd L rise far) w' (HM6.out.keep (hBY.trans (h.mono hBY.size))) hx (fun i => Nat.lt_of_lt_of_le (mTo_lt _ _) (pow_bd (by have := HLL.out; have := HN12.out; omega))) (by have := HGM.out; omega))
    have HDY := Lib.hid (HD6.out.trans (hBY.mono HD6.out.size))
    have HBY := Lib.hid (HB6.out.trans (hBY.mono HB6.out.size))
    have HY6 := Lib.hid hBY
    have HAL := Lib.hid hall
    have hv5 := (hBY.block _ (Array.getElem?_eq_some_iff.1 HV6.out).1).trans HV6.out
    have e5 := cellH hv5 0
    simp only [List.getElem?_toArray, List.getElem?_cons_zero, List.getElem?_cons_succ] at e5
    have HPRE := Lib.hid hlt
    have HX := Lib.hid hx
    obtain ⟨mb, hmb⟩ : ∃ b, mtB (wmN g wd L rise far) x g.length = b := ⟨_, rfl⟩
    rw [hmb] at HMM
    have HMB := Lib.hid hmb
    clear hxl hx hall hBY hv5 hlt hmb
    gi_wp2
    refine ⟨trivial, ?_⟩
    refine (CallsIn.inRound l' (callsIn_wide.2 (HMM.out Y (Below.refl _ _)))).mono ?_
    rintro e w7 ⟨rfl, hb7⟩
    have HB7 := Lib.hid hb7
    clear hb7
    cases mb
    · clear e5
      gi_wp2
      refine ⟨below_keeps HB7.out, KpA.of_below HB7.out, fun m hm => ?_, HY6.out.trans (HB7.out.mono HY6.out.size)⟩
      rcases List.mem_append.1 hm with hm | hm
      · exact HAL.out m hm
      · rw [List.mem_singleton.1 hm]; exact HMB.out
    · have HD7 := Lib.hid (HDY.out.trans (HB7.out.mono HDY.out.size))
      have HB7w := Lib.hid (HBY.out.trans (HB7.out.mono HBY.out.size))
      obtain ⟨q0, q1, q2, q3, q4, _, _, _⟩ := HRD.out w7 HD7.out
      clear e5
      gi_wp2
      refine ⟨trivial, ?_⟩
      refine (CallsIn.inRound l' (callsIn_wide.2 (HOR.out w7 HB7w.out))).mono ?_
      rintro e w8 ⟨V, L2, rfl, hr, hO2, hb8⟩
      obtain rfl : L2 = L := ord_unique hO2 HORD.out
      have HR8 := Lib.hid hr
      have HB8 := Lib.hid (HB7.out.trans (hb8.mono HB7.out.size))
      have HD8 := Lib.hid (HD7.out.trans (hb8.mono HD7.out.size))
      obtain ⟨Va, Vc, rfl, _⟩ := hr.form
      have HID := Lib.hid (idsOf_any _ L2 x w8 HR8.out (by have := HLL.out; have := HN12.out; omega) HX.out)
      clear hr hO2 hb8 q0 q1 q2 q3 q4
      gi_wp2
      refine ⟨trivial, ?_⟩
      refine (CallsIn.inRound l' (callsIn_wide.2 HID.out)).mono ?_
      rintro e w9 ⟨v9, rfl, hb9, hown⟩
      obtain ⟨a9, c9, hv9⟩ := row_form hown
      have HB9 := Lib.hid (HB8.out.trans (hb9.mono HB8.out.size))
      have HD9 := Lib.hid (HD8.out.trans (hb9.mono HD8.out.size))
      obtain ⟨_, _, _, _, _, hr1, hr2, hbw⟩ := HRD.out w9 HD9.out
      have hr2 : w9.heap[w.heap.size + 1 + 1]? = some (Obj.cells #[.int .i64 0] 33 (0, 0)) := hr2
      have HFIN : Hid (KeepsFrom w6.heap.size Y ((w9.setCell ⟨w.heap.size + 1, 0, none⟩ v9).setCell ⟨w.heap.size + 1 + 1, 0, none⟩ (.int .i64 0)) ∧ Below w.heap.size w ((w9.setCell ⟨w.heap.size + 1, 0, none⟩ v9).setCell ⟨w.heap.size + 1 + 1, 0, none⟩ (.int .i64 0)) ∧ ((w9.setCell ⟨w.heap.size + 1, 0, none⟩ v9).setCell ⟨w.heap.size + 1 + 1, 0, none⟩ (.int .i64 0)).heap[w.heap.size + 1]? = some (Obj.cells #[v9] 22 (0, 0)) ∧ ((w9.setCell ⟨w.heap.size + 1, 0, none⟩ v9).setCell ⟨w.heap.size + 1 + 1, 0, none⟩ (.int .i64 0)).heap[w.heap.size + 2]? = some (Obj.cells #[.int .i64 0] 33 (0, 0)) ∧ RwB ((w9.setCell ⟨w.heap.size + 1, 0, none⟩ v9).setCell ⟨w.heap.size + 1 + 1, 0, none⟩ (.int .i64 0)) v9 (idK L2 x.testBit L2.length)) := Lib.hid (by
        refine ⟨((below_keeps HB9.out).trans ((KeepsOthers.setCell _ _ _).from _)).trans ((KeepsOthers.setCell _ _ _).from _), (hbw.setCell (p := ⟨w.heap.size + 1, 0, none⟩) (by simp) _).setCell (p := ⟨w.heap.size + 1 + 1, 0, none⟩) (by simp; omega) _, (heap_other _ _ _ _ _ (by omega)).trans (heap_same hr1 0 _), heap_same ((heap_other _ _ _ _ _ (by omega)).trans hr2) 0 _, (RwB.of_own hown).keep fun b C h => ?_⟩
        have hn1 : b ≠ w.heap.size + 1 := fun e => by rw [e, hr1] at h; simp at h
        have hn2 : b ≠ w.heap.size + 1 + 1 := fun e => by rw [e, hr2] at h; simp at h
        exact (heap_other _ _ _ _ _ hn2).trans ((heap_other _ _ _ _ _ hn1).trans h))
      have x0 := cellH hr1 0
      have y0 := cellH hr2 0
      have xf := freeH hr1 0
      have yf := freeH hr2 0
      simp at x0 y0
      have hne : w.heap.size + 1 + 1 ≠ w.heap.size + 1 := by omega
      subst hv9
      clear hb9 hown hr1 hr2 hbw HID
      gi_wp2
      exact ⟨HFIN.out.1, rfl, HFIN.out.2.1, pre, x, _, rfl, HAL.out, HMB.out, HFIN.out.2.2.1, HFIN.out.2.2.2.1, HFIN.out.2.2.2.2⟩
  case done =>
    rintro D Y hD ⟨hall, hBY⟩ hK
    obtain ⟨m, hm, h1⟩ := fw_some (g := g) (wd := wd) (rise := rise) (far := far) (n := g.length) HORD.out HND.out
    rw [HLL.out] at hm
    rw [hall m hm] at h1
    cases h1
  case stop =>
    rintro D c pre Y hD hpre ⟨rfl, hB, pre0, x, v, rfl, h0, h1, hr1, hr2, hrw⟩ hK
    have HFW := Lib.hid (fw_of HORD.out HND.out (by rw [HLL.out]; exact hpre) h0 h1)
    have HB := Lib.hid hB; have HR1 := Lib.hid hr1; have HR2 := Lib.hid hr2; have HRW := Lib.hid hrw; have HK := Lib.hid hK
    clear hB hr1 hr2 hrw hK hpre h0 h1
    gi_wp2
    try rw [Exit.noGoto_ret]
    exact leaves_marks5 (F := Fence.wide) (n := 7) w.heap.size [D] _ (by simp) (fun D' hD' => by
      obtain rfl : D' = D := by simpa using hD'
      exact ⟨by have := HB6.out.size; omega, HK.out⟩) (fun W' hk hb' => ⟨_, fw_results rfl rfl (cellH (hk.2 _ _ _ _ HR1.out) 0) (cellH (hk.2 _ _ _ _ HR2.out) 0), v, idK L x.testBit L.length, rfl, HB.out.trans hb', (HRW.out.keep fun b C h => hk.2 _ _ _ _ h).row, HFW.out⟩)
end Go.Proofs.Ytnacgogcbbpjmaa
