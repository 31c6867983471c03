/- separate of package beam. -/
import Derived.Test.YtjhkgfbkpgnodaaGreatDoorY4
namespace Go.Proofs.YtjhkgfbkpgnodaaGreatDoor
open Go.RowKit Go.Shelf

/-- A slice of numbers reads as a list. -/
def IRow (w : World) (v : Value) (l : List Nat) : Prop :=
  (v = .slice none 0 0 ∧ l = []) ∨ ∃ b cap, v = .slice (some ⟨b, 0, none⟩) l.length cap ∧ l.length ≤ cap ∧ b < w.heap.size ∧ ∀ i, i < l.length → w.cell? ⟨b, i, none⟩ = some (.int .i64 (l.getD i 0 : Nat))
theorem IRow.keep {w w' : World} {v : Value} {l : List Nat} (h : IRow w v l) (hb : Below w.heap.size w w') : IRow w' v l := by
  rcases h with h | ⟨b, cap, h1, h2, h3, h4⟩
  · exact .inl h
  · exact .inr ⟨b, cap, h1, h2, Nat.lt_of_lt_of_le h3 hb.size, fun i hi => (hb.cell (p := ⟨b, i, none⟩) h3).trans (h4 i hi)⟩
theorem IRow.form {w : World} {v : Value} {l : List Nat} (h : IRow w v l) : ∃ a cap, v = .slice a l.length cap ∧ ∀ k, k < l.length → ∃ b, a = some ⟨b, 0, none⟩ ∧ b < w.heap.size ∧ w.cell? ⟨b, k, none⟩ = some (.int .i64 (l.getD k 0 : Nat)) := by
  rcases h with ⟨rfl, rfl⟩ | ⟨b, cap, rfl, h2, h3, h4⟩
  · exact ⟨none, 0, rfl, fun k hk => by simp at hk⟩
  · exact ⟨_, cap, rfl, fun k hk => ⟨b, rfl, h3, h4 k hk⟩⟩
theorem natD_mem {l : List Nat} {k : Nat} (hk : k < l.length) : l.getD k 0 ∈ l := by
  rw [List.getD_eq_getElem?_getD, List.getElem?_eq_getElem hk]; exact List.getElem_mem _
theorem nat_take_succ {l : List Nat} {k : Nat} (hk : k < l.length) : l.take (k + 1) = l.take k ++ [l.getD k 0] := by
  rw [List.take_succ_eq_append_getElem hk, List.getD_eq_getElem?_getD, List.getElem?_eq_getElem hk]; rfl
theorem and_u64 (a b : Nat) (ha : a < 16) (hb : b < 16) : bits BinOp.and IntKind.u64 (a : Int) (b : Int) = ((a &&& b : Nat) : Int) := bits_and_u64_nat a b (by omega) (by omega)
theorem shl_u64 (x : Nat) (hx : x < 4) : IntKind.u64.wrap (2 ^ min x 64) = ((2 ^ x : Nat) : Int) ∧ 2 ^ x < 16 := by
  rcases (by omega : x = 0 ∨ x = 1 ∨ x = 2 ∨ x = 3) with rfl | rfl | rfl | rfl <;> exact ⟨rfl, by decide⟩

set_option maxRecDepth 100000 in
set_option maxHeartbeats 1000000 in
theorem separate_any (v : Value) (l : List Nat) (c : Nat → Nat → Bool) (k : Nat) (w : World) (hk : k ≤ 4) (hv : IRow w v l) (hl : ∀ x ∈ l, x < k) (hll : l.length ≤ 1000) :
    Calls Tryz.prog 56 #[v, .agg (uA (maskN c k))] w fun e w' => e = .returned (.bool (sepB c l)) ∧ Below w.heap.size w w' := by
  obtain ⟨a, cap, rfl, hc⟩ := hv.form
  have HC := Lib.hid hc
  have HS : Hid (sepB c l = l.all fun i => !meetB c l i) := Lib.hid (sep_meet c l)
  have HAM := Lib.hid (fun i => and_meet c hl i)
  have HML := Lib.hid (fun i => Nat.lt_of_lt_of_le (maskN_lt c k i) (Nat.pow_le_pow_right (by omega : 0 < 2) hk))
  have HSL : Hid (setN l < 16) := Lib.hid (setN_lt l (fun x hx => by have := hl x hx; omega))
  have HTL : Hid (∀ t, setN (l.take t) < 16) := Lib.hid (fun t => setN_lt _ (fun x hx => by have := hl x (List.mem_of_mem_take hx); omega))
  have HX : Hid (∀ t, t < l.length → l.getD t 0 < 4) := Lib.hid (fun t ht => by have := hl _ (natD_mem ht); omega)
  obtain ⟨f, hf⟩ : ∃ f, maskN c k = f := ⟨_, rfl⟩
  rw [hf] at HAM HML ⊢
  clear hc hv hl hf
  go_enter Tryz.func56, Tryz.ntmps56
  go_wp2_with fail
  go_loopw [5, 12] (fun s i wr => ∃ t : Nat, t ≤ l.length ∧ i = .int .i64 t ∧ s = .int .u64 (setN (l.take t) : Nat) ∧ wr = w.alloc (.cells (uA f) 95)) (fun _ i _ => l.length - (intOf i).toNat)
  case atStart => exact ⟨0, Nat.zero_le _, rfl, rfl, rfl⟩
  case round =>
    obtain ⟨t, ht, rfl, rfl, hwr⟩ := hrel
    by_cases hlt : t < l.length
    · obtain ⟨b, rfl, hb, c0⟩ := HC.out t hlt
      have hti : (t : Int) < l.length := by omega
      have ht0 : (0 : Int) ≤ t := by omega
      have c1 : wr.cell? ⟨b, t, none⟩ = some (.int .i64 (l.getD t 0 : Nat)) := by rw [hwr]; exact (((Below.refl _ w).alloc (Nat.le_refl _) _).cell (p := ⟨b, t, none⟩) hb).trans c0
      have hx4 := HX.out t hlt
      obtain ⟨h1, h2⟩ := shl_u64 _ hx4
      have hor := or_u64 (setN (l.take t)) (2 ^ l.getD t 0) (HTL.out t) h2
      have HN : Hid (setN (l.take t) ||| 2 ^ l.getD t 0 = setN (l.take (t + 1))) := Lib.hid (by rw [nat_take_succ hlt, setN_snoc])
      obtain ⟨x, hx⟩ : ∃ x, l.getD t 0 = x := ⟨_, rfl⟩
      rw [hx] at c1 h1 hor HN
      obtain ⟨p, hp⟩ : ∃ p, (2 : Nat) ^ x = p := ⟨_, rfl⟩
      rw [hp] at h1 hor HN
      obtain ⟨s, hs⟩ : ∃ s, setN (l.take t) = s := ⟨_, rfl⟩
      rw [hs] at hor HN ⊢
      have HWR := Lib.hid hwr
      have hx0 : (0 : Int) ≤ x := by omega
      clear c0 hx4 h2 hx hp hs hwr
      go_wp2_with fail
      go_roundw
      case rel => exact ⟨t + 1, by omega, by go_num, by rw [HN.out], HWR.out⟩
      case measure => simp [intOf]; omega
    · obtain rfl : t = l.length := by omega
      rw [List.take_length]
      have HWR : Hid (Below w.heap.size w wr ∧ wr.heap[w.heap.size]? = some (.cells (uA f) 95 (0, 0))) := Lib.hid (by rw [hwr]; exact ⟨(Below.refl _ w).alloc (Nat.le_refl _) _, World.alloc_heap_new w _⟩)
      obtain ⟨s, hs⟩ : ∃ s, setN l = s := ⟨_, rfl⟩
      rw [hs] at HSL HAM ⊢
      clear hwr hs HTL
      go_wp2_with fail
      go_loopw [23] (fun i ws => ∃ t : Nat, t ≤ l.length ∧ i = .int .i64 t ∧ Hid (((l.take t).all fun i => !meetB c l i) = true) ∧ Hid (Below w.heap.size w ws ∧ ws.heap[w.heap.size]? = some (.cells (uA f) 95 (0, 0)))) (fun i _ => l.length - (intOf i).toNat)
      case atStart => exact ⟨0, Nat.zero_le _, rfl, Lib.hid rfl, HWR⟩
      case round =>
        clear ht
        obtain ⟨t, ht, rfl, hA, hB⟩ := hrel
        by_cases hlt : t < l.length
        · obtain ⟨b, rfl, hb, c0⟩ := HC.out t hlt
          have hti : (t : Int) < l.length := by omega
          have ht0 : (0 : Int) ≤ t := by omega
          have c1 : wr.cell? ⟨b, t, none⟩ = some (.int .i64 (l.getD t 0 : Nat)) := (hB.out.1.cell (p := ⟨b, t, none⟩) hb).trans c0
          have hx4 := HX.out t hlt
          obtain ⟨x, hx⟩ : ∃ x, l.getD t 0 = x := ⟨_, rfl⟩
          have HNX : Hid (l.take (t + 1) = l.take t ++ [x]) := Lib.hid (by rw [nat_take_succ hlt, hx])
          have HMX : Hid (x ∈ l) := Lib.hid (by rw [← hx]; exact natD_mem hlt)
          rw [hx] at c1 hx4
          have cx : wr.cell? ⟨w.heap.size, x, none⟩ = some (.int .u64 (f x)) := (cell_of_heap hB.out.2 x).trans (uA_at f x (by omega))
          have hand := and_u64 (f x) s (HML.out x) HSL.out
          obtain ⟨q, hq⟩ : ∃ q, f x &&& s = q := ⟨_, rfl⟩
          have HQM : Hid (q = 0 ↔ meetB c l x = false) := Lib.hid (by rw [← hq]; exact HAM.out x)
          rw [hq] at hand
          obtain ⟨m, hm⟩ : ∃ m, f x = m := ⟨_, rfl⟩
          rw [hm] at cx hand
          have hx0 : (0 : Int) ≤ x := by omega
          have hx8 : (x : Int) < 8 := by omega
          clear c0 hx hq hm
          by_cases h0 : q = 0
          · have hz : ((q : Int) != 0) = false := by rw [h0]; rfl
            have HN : Hid (((l.take (t + 1)).all fun i => !meetB c l i) = true) := Lib.hid (by rw [HNX.out, List.all_append, hA.out]; simp [HQM.out.1 h0])
            clear h0
            go_wp2_with fail
            go_roundw
            case rel => exact ⟨t + 1, by omega, by go_num, HN, hB⟩
            case measure => simp [intOf]; omega
          · have hz : ((q : Int) != 0) = true := by simp; omega
            have HN : Hid (sepB c l = false) := Lib.hid (by
              rw [HS.out, List.all_eq_false]
              refine ⟨x, HMX.out, ?_⟩
              cases hmm : meetB c l x
              · exact absurd (HQM.out.2 hmm) h0
              · simp)
            clear h0
            go_wp2_with fail
            go_ret
            exact ⟨ret_bool HN.out.symm, hB.out.1⟩
        · obtain rfl : t = l.length := by omega
          have HN : Hid (sepB c l = true) := Lib.hid (by have := hA.out; rw [List.take_length] at this; rw [HS.out]; exact this)
          go_wp2_with fail
          go_ret
          exact ⟨ret_bool HN.out.symm, hB.out.1⟩
end Go.Proofs.YtjhkgfbkpgnodaaGreatDoor

/-! The reference's before. -/
namespace Go.Proofs.YtjhkgfbkpgnodaaGreatDoor
open Go.RowKit Go.Shelf

theorem nat_drop_cons {l : List Nat} {k : Nat} (hk : k < l.length) : l.drop k = l.getD k 0 :: l.drop (k + 1) := by
  rw [List.drop_eq_getElem_cons hk, List.getD_eq_getElem?_getD, List.getElem?_eq_getElem hk]; rfl

set_option maxRecDepth 100000 in
set_option maxHeartbeats 1000000 in
theorem before_any (v u : Value) (l m : List Nat) (w : World) (hv : IRow w v l) (hu : IRow w u m) (hl : l.length ≤ 1000) (hm : m.length ≤ 1000) :
    Calls Tryz.prog 57 #[v, u] w fun e w' => e = .returned (.bool (beforeB l m)) ∧ Below w.heap.size w w' := by
  obtain ⟨a, cap, rfl, hc⟩ := hv.form
  obtain ⟨b, cap2, rfl, hd⟩ := hu.form
  have HC := Lib.hid hc
  have HD := Lib.hid hd
  clear hc hd hv hu
  by_cases hlen : l.length = m.length
  · have hq : ((l.length : Int) != m.length) = false := by rw [hlen]; simp
    have HB : Hid (beforeB l m = beforeL l m) := Lib.hid (by unfold beforeB; rw [if_neg (by simpa using hlen)])
    have HL := Lib.hid hlen
    clear hlen
    go_enter Tryz.func57, Tryz.ntmps57
    go_wp2_with fail
    go_loopw [5] (fun i wr => ∃ k : Nat, k ≤ l.length ∧ i = .int .i64 k ∧ Hid (beforeL (l.drop k) (m.drop k) = beforeL l m) ∧ Hid (Below w.heap.size w wr)) (fun i _ => l.length - (intOf i).toNat)
    case atStart => exact ⟨0, Nat.zero_le _, rfl, Lib.hid rfl, Lib.hid (Below.refl _ _)⟩
    case round =>
      obtain ⟨k, hk, rfl, hT, hB⟩ := hrel
      by_cases hlt : k < l.length
      · have hltm : k < m.length := by rw [← HL.out]; exact hlt
        obtain ⟨g, rfl, hg, c0⟩ := HC.out k hlt
        obtain ⟨g2, rfl, hg2, d0⟩ := HD.out k hltm
        have hlti : (k : Int) < l.length := by omega
        have hltj : (k : Int) < m.length := by omega
        have hk0 : (0 : Int) ≤ k := by omega
        have c1 := (hB.out.cell (p := ⟨g, k, none⟩) hg).trans c0
        have d1 := (hB.out.cell (p := ⟨g2, k, none⟩) hg2).trans d0
        have HS : Hid (beforeL l m = if l.getD k 0 ≠ m.getD k 0 then decide (l.getD k 0 < m.getD k 0) else beforeL (l.drop (k + 1)) (m.drop (k + 1))) := Lib.hid (by
          rw [← hT.out, nat_drop_cons hlt, nat_drop_cons hltm]; rfl)
        obtain ⟨x, hx⟩ : ∃ x, l.getD k 0 = x := ⟨_, rfl⟩
        obtain ⟨y, hy⟩ : ∃ y, m.getD k 0 = y := ⟨_, rfl⟩
        rw [hx] at c1 HS
        rw [hy] at d1 HS
        clear c0 d0 hx hy
        by_cases hxy : x = y
        · have HN := Lib.hid (HS.out.trans (if_neg (by simpa using hxy))).symm
          subst hxy
          go_wp2_with fail
          go_quiet (fail)
          go_wp2_with fail
          go_roundw
          case rel => exact ⟨k + 1, by omega, by go_num, HN, Lib.hid (below_drewN hB.out _)⟩
          case measure => simp [intOf]; omega
        · have hne : ((x : Int) != y) = true := by simp; omega
          have HN : Hid (beforeB l m = decide (x < y)) := Lib.hid (by rw [HB.out, HS.out, if_pos hxy])
          clear hxy
          go_wp2_with fail
          go_quiet (fail)
          go_wp2_with fail
          go_quiet (fail)
          go_wp2_with fail
          go_ret
          exact ⟨ret_bool HN.out.symm, below_drewN (below_drewN hB.out _) _⟩
      · obtain rfl : k = l.length := by omega
        have HN : Hid (beforeB l m = false) := Lib.hid (by rw [HB.out, ← hT.out, List.drop_length]; rfl)
        go_wp2_with fail
        go_ret
        exact ⟨ret_bool HN.out.symm, hB.out⟩
  · have hq : ((l.length : Int) != m.length) = true := by simp; omega
    have HB : Hid (beforeB l m = decide (m.length < l.length)) := Lib.hid (by unfold beforeB; rw [if_pos (by simpa using hlen)])
    clear hlen
    go_enter Tryz.func57, Tryz.ntmps57
    go_wp2_with fail
    go_ret
    exact ⟨ret_bool HB.out.symm, Below.refl _ _⟩
end Go.Proofs.YtjhkgfbkpgnodaaGreatDoor
