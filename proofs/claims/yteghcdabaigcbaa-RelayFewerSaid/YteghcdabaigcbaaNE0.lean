/- The walk of RelayFewer. -/
import Derived.Test.YteghcdabaigcbaaNF4
set_option linter.unusedVariables false
set_option linter.unusedSimpArgs false
namespace Go.Proofs.Yteghcdabaigcbaa
open Go.RowKit

theorem row_set {w : World} {base : Nat} {e : TypeId} {size : Nat} {v : Value} {n : Nat} {xs : List Value} (h : w.ownsRow base e size v n xs) {q : Nat} {C : Array Value} {t : TypeId} {fr : Nat × Nat} (hq : w.heap[q]? = some (Obj.cells C t fr)) (hne : t ≠ e) (k : Nat) (u : Value) : (w.setCell ⟨q, k, none⟩ u).ownsRow base e size v n xs :=
  have hb : Below q w (w.setCell ⟨q, k, none⟩ u) := by
    refine Below.setCell (Below.refl q w) ?_ u
    exact Nat.le_refl q
  World.ownsRow.kept h (row := some q) ⟨hb.os, hb.tape, hb.output, by simp, fun b hb hn => heap_other _ _ _ _ _ (fun e => hn (by rw [e]))⟩ (.inr (fun e => own_ne h hq hne e.symm))

theorem startE_of {st : Int} {ls ks : List Lk} {a t : Int} (h : netE st ls = 0) (h' : netE st ks = 0) (hE : startE st ls a t = 0) : startE st ks a t = 0 := by
  unfold startE at hE ⊢
  rw [if_pos h] at hE
  rw [if_pos h']
  exact hE
theorem early_q {st : Int} {ls : List Lk} {a t : Int} {w w' : World} {e : Ending} (h : EarlyOut st ls a t w e w') : ∃ v l, e = .returned (.tuple #[v, .int .i64 (startE st ls a t)]) ∧ Below w.heap.size w w' ∧ INRow w' v l ∧ (startE st ls a t = 0 → ∃ by', Inv st.toNat ls a.toNat t l by' ∧ Shut ls l) := by
  obtain ⟨v, rfl, hb, h1, h2⟩ := h
  by_cases hE : startE st ls a t = 0
  · obtain ⟨at', by', q1, q2, q3⟩ := h2 hE
    exact ⟨v, at', rfl, hb, q1, fun _ => ⟨by', q2, q3⟩⟩
  · exact ⟨v, [], rfl, hb, .inl ⟨_, _, h1 hE, rfl⟩, fun h => absurd h hE⟩
/-- The list that Needed returns holds a number exactly when the word is elsewhere without that link. -/
theorem numsL_any (c : Nat → Bool) (n j : Nat) (h : j < n) : (numsL c n).any (· == (j : Int)) = c j := by
  cases hc : c j
  · rw [List.any_eq_false]
    intro x hx
    unfold numsL at hx
    obtain ⟨i, hi, rfl⟩ := List.mem_map.1 hx
    have := (List.mem_filter.1 hi).2
    simp
    intro e
    have e' : i = j := by omega
    rw [e', hc] at this; cases this
  · rw [List.any_eq_true]
    refine ⟨(j : Int), ?_, by simp⟩
    unfold numsL
    exact List.mem_map.2 ⟨j, List.mem_filter.2 ⟨List.mem_range.2 h, hc⟩, rfl⟩
theorem any_take_succ {l : List Int} {k : Nat} (j : Int) (h : k < l.length) : (l.take (k + 1)).any (· == j) = ((l.take k).any (· == j) || l.getD k 0 == j) := by
  rw [List.take_add_one, List.any_append, List.getD_eq_getElem?_getD]
  simp [List.getElem?_eq_getElem h]

set_option maxRecDepth 100000 in
set_option maxHeartbeats 8000000 in
theorem fewer_law (st : Int) (o : Value) (ls : List Lk) (a b t n c1 c2 : Int) (W : World) (hv : NRow W o ls) (hcap : ∀ a n c, o = .slice a n c → n ≤ c) (hst : -9223372036854775808 ≤ st ∧ st ≤ 9223372036854775807) (ha : -9223372036854775808 ≤ a ∧ a ≤ 9223372036854775807) (hb : -9223372036854775808 ≤ b ∧ b ≤ 9223372036854775807) (ht : -9223372036854775808 ≤ t ∧ t ≤ 9223372036854775807)
    (hn : 0 ≤ n ∧ n ≤ 255) (hc1 : -9223372036854775808 ≤ c1 ∧ c1 ≤ 9223372036854775807) (hc2 : -9223372036854775808 ≤ c2 ∧ c2 ≤ 9223372036854775807) :
    Calls Try.prog 9 #[ntV st o, .int .i64 a, .int .i64 b, .int .i64 t, .int .u8 n, .agg #[.int .i64 c1, .int .i64 c2]] W fun e w' => e = .returned (.bool true) ∧ Below W.heap.size W w' := by
  obtain ⟨oa, oc, rfl, hlc⟩ := hv.row.form
  have HV := Lib.hid hv
  have HLC := Lib.hid hlc
  have HC1 := Lib.hid (fun w' (h : Below W.heap.size W w') => few_any st (.slice oa ls.length oc) ls w' (hv.keep h))
  have HC2 := Lib.hid (fun w' (h : Below W.heap.size W w') => Earliest_any st (.slice oa ls.length oc) ls a t w' (hv.keep h))
  have HC3 := Lib.hid (fun w' (h : Below W.heap.size W w') => Closed_any st (.slice oa ls.length oc) ls c1 c2 w' (hv.keep h) ⟨hc1.2, hc2.1⟩)
  have HC4 := Lib.hid (fun w' (h : Below W.heap.size W w') => Needed_any st (.slice oa ls.length oc) ls a b t w' (hv.keep h))
  unfold ntV at HC1 HC2 HC3 HC4 ⊢
  have HA := Lib.hid (fun W' => two_cells W #[.int .i64 st, .slice oa ls.length oc] #[.int .i64 c1, .int .i64 c2] 24 52 (W := W'))
  have HB0 := Lib.hid (((Below.refl _ W).alloc (Nat.le_refl W.heap.size) (.cells #[.int .i64 st, .slice oa ls.length oc] 24)).alloc (by simp) (.cells #[.int .i64 c1, .int .i64 c2] 52))
  obtain ⟨W1, hW1⟩ : ∃ W1, (W.alloc (.cells #[.int .i64 st, .slice oa ls.length oc] 24)).alloc (.cells #[.int .i64 c1, .int .i64 c2] 52) = W1 := ⟨_, rfl⟩
  rw [hW1] at HA HB0
  have HW1 := Lib.hid hW1
  have hll := hv.len
  clear hv hlc hW1
  cases hf : fewB ls
  · rw [hf] at HC1
    clear hf hll
    go_enter Try.func9, Try.ntmps9
    go_wp2_with fail
    rw [HW1.out]
    refine (HC1.out _ HB0.out).mono ?_
    rintro e w3 ⟨rfl, hb3⟩
    have HB3 := Lib.hid (HB0.out.trans (hb3.mono HB0.out.size))
    clear hb3
    go_wp2_with fail
    refine (nets_any _).mono ?_
    rintro e wN ⟨rfl, hb⟩
    have HN := Lib.hid (HB3.out.trans (hb.mono HB3.out.size))
    clear hb
    go_wp2_with fail
    go_ret
    exact ⟨rfl, HN.out⟩
  rw [hf] at HC1
  clear hf
  by_cases hl0 : ls.length = 0
  · have g0 : ((ls.length : Int) == 0) = true := by simp [hl0]
    clear hl0 hll
    go_enter Try.func9, Try.ntmps9
    go_wp2_with fail
    rw [HW1.out]
    refine (HC1.out _ HB0.out).mono ?_
    rintro e w3 ⟨rfl, hb3⟩
    obtain ⟨m0, m1, _, _⟩ := HA.out w3 hb3
    have n1 := cellH m0 1
    simp at n1
    have HB3 := Lib.hid (HB0.out.trans (hb3.mono HB0.out.size))
    clear hb3 m0 m1
    go_wp2_with fail
    refine (nets_any _).mono ?_
    rintro e wN ⟨rfl, hb⟩
    have HN := Lib.hid (HB3.out.trans (hb.mono HB3.out.size))
    clear hb
    go_wp2_with fail
    go_ret
    exact ⟨rfl, HN.out⟩
  have g0 : ((ls.length : Int) == 0) = false := by simp; intro h; rw [h] at hl0; exact hl0 rfl
  have HL0 := Lib.hid hl0
  clear hl0
  -- Earliest has an error, or no such station
  by_cases hE : startE st ls a t = 0
  case neg =>
    have hz : (startE st ls a t != 0) = true := by simpa using hE
    have HE := Lib.hid hE
    obtain ⟨q, hq⟩ : ∃ q, startE st ls a t = q := ⟨_, rfl⟩
    rw [hq] at hz
    have HQ := Lib.hid hq
    clear hE hq
    go_enter Try.func9, Try.ntmps9
    go_wp2_with fail
    rw [HW1.out]
    refine (HC1.out _ HB0.out).mono ?_
    rintro e w3 ⟨rfl, hb3⟩
    obtain ⟨m0, m1, _, hw3⟩ := HA.out w3 hb3
    have n0 := cellH m0 0
    have n1 := cellH m0 1
    simp at n0 n1
    have HB3 := Lib.hid hw3
    clear hb3 hw3 m0 m1
    go_wp2_with fail
    refine (HC2.out _ HB3.out).mono ?_
    rintro e w4 ⟨v4, rfl, hb4, he4, _⟩
    obtain rfl := he4 HE.out
    rw [HQ.out]
    have HB4 := Lib.hid (HB3.out.trans (hb4.mono HB3.out.size))
    clear hb4 he4 n0 n1
    go_wp2_with fail
    refine (nets_any _).mono ?_
    rintro e wN ⟨rfl, hb⟩
    have HN := Lib.hid (HB4.out.trans (hb.mono HB4.out.size))
    clear hb
    go_wp2_with fail
    go_ret
    exact ⟨rfl, HN.out⟩
  obtain ⟨hne, a0, a1, t0, t1⟩ := startE_ok hE
  obtain ⟨s1, s10, l40, hks⟩ := netE_ok hne
  obtain ⟨m, rfl⟩ : ∃ m : Nat, a = m := ⟨a.toNat, by omega⟩
  obtain ⟨s, rfl⟩ : ∃ s : Nat, st = s := ⟨st.toNat, by omega⟩
  have HE := Lib.hid hE
  have HNE := Lib.hid (And.intro l40 hks)
  clear hE hne a0 a1 t0 t1 hks hst ha ht hll
  by_cases hbs : 0 ≤ b ∧ b < s
  case neg =>
    rcases (by omega : b < 0 ∨ (¬ b < 0 ∧ (s : Int) ≤ b)) with hb0 | ⟨hb0, hb1⟩
    case' inr => have g9 : decide (b < 0) = false := decide_eq_false hb0
    all_goals
      clear hbs
      go_enter Try.func9, Try.ntmps9
      go_wp2_with fail
      rw [HW1.out]
      refine (HC1.out _ HB0.out).mono ?_
      rintro e w3 ⟨rfl, hb3⟩
      have HD3 := Lib.hid hb3
      obtain ⟨m0, m1, _, hw3⟩ := HA.out w3 hb3
      have n0 := cellH m0 0
      have n1 := cellH m0 1
      simp at n0 n1
      have HB3 := Lib.hid hw3
      clear hb3 hw3 m0 m1
      go_wp2_with fail
      refine (HC2.out _ HB3.out).mono ?_
      rintro e w4 ⟨v4, rfl, hb4, _, he4⟩
      obtain ⟨at', by', h1, _⟩ := he4 HE.out
      rw [HE.out]
      obtain ⟨a4, p4, rfl, _⟩ := h1.form
      have HB4 := Lib.hid (HB3.out.trans (hb4.mono HB3.out.size))
      clear n0 n1
      obtain ⟨m0, m1, _, _⟩ := HA.out w4 (HD3.out.trans (hb4.mono HD3.out.size))
      have n0 := cellH m0 0
      have n1 := cellH m0 1
      simp at n0 n1
      clear hb4 he4 h1 m0 m1
      go_wp2_with fail
      refine (nets_any _).mono ?_
      rintro e wN ⟨rfl, hb⟩
      have HN := Lib.hid (HB4.out.trans (hb.mono HB4.out.size))
      clear hb
      go_wp2_with fail
      go_ret
      exact ⟨rfl, HN.out⟩
  obtain ⟨hb0, hb1⟩ := hbs
  obtain ⟨g, rfl⟩ : ∃ g : Nat, b = g := ⟨b.toNat, by omega⟩
  have hgs : g < s := by omega
  have hgi : (g : Int) < s := by omega
  have hg0 : (0 : Int) ≤ g := by omega
  have g3 : decide ((g : Int) < 0) = false := decide_eq_false (by omega)
  have g4 : decide ((s : Int) ≤ g) = false := decide_eq_false (by omega)
  obtain ⟨hn0, hn1⟩ := hn
  obtain ⟨j, hj⟩ : ∃ j : Nat, n.tmod (ls.length : Int) = j := ⟨(n.tmod (ls.length : Int)).toNat, by
    rw [Int.tmod_eq_emod_of_nonneg hn0]
    have := Int.emod_nonneg n (b := (ls.length : Int)) (by have := HL0.out; omega)
    omega⟩
  have hjl : j < ls.length := by
    rw [Int.tmod_eq_emod_of_nonneg hn0] at hj
    have := Int.emod_lt_of_pos n (b := (ls.length : Int)) (by have := HL0.out; omega)
    omega
  have hji : (j : Int) < ls.length := by omega
  have hj0 : (0 : Int) ≤ j := by omega
  have hlz : (ls.length : Int) ≠ 0 := by omega
  have hl40 : (ls.length : Int) ≤ 40 := by omega
  clear hb hb0 hb1 l40
  go_enter Try.func9, Try.ntmps9
  go_wp2_with fail
  rw [HW1.out]
  refine (HC1.out _ HB0.out).mono ?_
  rintro e w3 ⟨rfl, hb3⟩
  have HD3 := Lib.hid hb3
  obtain ⟨m0, m1, _, hw3⟩ := HA.out w3 hb3
  have n0 := cellH m0 0
  have n1 := cellH m0 1
  simp at n0 n1
  have HB3 := Lib.hid hw3
  clear hb3 hw3 m0 m1
  go_wp2_with fail
  refine (HC2.out _ HB3.out).mono ?_
  rintro e w4 ⟨v4, rfl, hb4, _, he4⟩
  obtain ⟨at', by', h1, h2, h3⟩ := he4 HE.out
  rw [HE.out]
  simp only [Int.toNat_natCast] at h2
  have HI := Lib.hid h2
  have HS := Lib.hid h3
  obtain ⟨a4, p4, rfl, hcells⟩ := h1.form
  have hla := h2.la
  rw [hla] at hcells ⊢
  obtain ⟨bk, off, rfl, hbk, cg⟩ := hcells g hgs
  have HCE : Hid (∀ W', Below w4.heap.size w4 W' → ∀ k, k < s → W'.cell? ⟨bk, off + k, none⟩ = some (.int .i64 (at0 at' k))) := Lib.hid (fun W' h k hk => by
    obtain ⟨b', o', e', hlt, hc⟩ := hcells k hk
    cases e'
    exact (h.cell (p := ⟨bk, _, none⟩) hlt).trans hc)
  have HB4 := Lib.hid (HB3.out.trans (hb4.mono HB3.out.size))
  have HD4 := Lib.hid (HD3.out.trans (hb4.mono HD3.out.size))
  clear n0 n1
  obtain ⟨m0, m1, _, _⟩ := HA.out w4 HD4.out
  have n0 := cellH m0 0
  have n1 := cellH m0 1
  simp at n0 n1
  clear hb4 he4 h1 h2 h3 hcells hbk cg hla m0 m1
  go_wp2_with fail
  rename_i Q q3 q2 q1 q0 h9 K hK
  have hlt0 : W.heap.size < w4.heap.size := by omega
  have hne0 : W.heap.size ≠ w4.heap.size := by omega
  obtain ⟨lb, lo, rfl, hlb, _⟩ := HLC.out j hjl
  have hcap' := hcap _ _ _ rfl
  have hjc : (j : Int) ≤ oc := by omega
  have hjc2 : (j : Int) + 1 ≤ ls.length := by omega
  have hjc3 : (ls.length : Int) ≤ oc := by omega
  have h01 : (0 : Int) ≤ (j : Int) + 1 := by omega
  have htn : ((j : Int) + 1).toNat = j + 1 := by omega
  have hwj : IntKind.i64.wrap ((j : Int) + 1) = (j : Int) + 1 := IntWalk.i64_in _ (by omega)
  obtain ⟨i0, hi0, hz0, hz1, hz2⟩ := info_parts info_l
  have HRD : Hid (∀ W', Below w4.heap.size w4 W' → W'.cell? ⟨W.heap.size, 0, none⟩ = some (.int .i64 s) ∧ W'.cell? ⟨W.heap.size, 1, none⟩ = some (.slice (some ⟨lb, lo, none⟩) ls.length oc)) := Lib.hid (fun W' h => ⟨(h.cell (p := ⟨W.heap.size, 0, none⟩) hlt0).trans n0, (h.cell (p := ⟨W.heap.size, 1, none⟩) hlt0).trans n1⟩)
  have HLM : Hid (LinkMem W lb lo ls) := Lib.hid ⟨hlb, fun k hk => by
    obtain ⟨b', o', e', _, hc⟩ := HLC.out k hk
    cases e'
    exact hc⟩
  have HBW : Hid (∀ W', Below w4.heap.size w4 W' → Below W.heap.size W W') := Lib.hid (fun W' h => HB4.out.trans (h.mono HB4.out.size))
  have HQ1 : Hid (∀ W', Below w4.heap.size w4 W' → ∀ i u, (rawL W lb lo j)[i]? = some u → W'.cell? ((⟨lb, lo, none⟩ : Addr).add i) = some u) := Lib.hid (fun W' h => by
    have h1 := (LinkMem.raw HLM.out (HBW.out _ h) (p := 0) (n := j) (by omega)).1
    simpa using h1)
  have HQ2 : Hid (∀ W', Below w4.heap.size w4 W' → ∀ i u, (rawL W lb (lo + (j + 1) * 4) (ls.length - (j + 1)))[i]? = some u → W'.cell? ((if oc = j + 1 then (⟨lb, lo, none⟩ : Addr) else ⟨lb, lo + (j + 1) * 4, none⟩).add i) = some u) := Lib.hid (fun W' h i u hi => by
    by_cases c : oc = j + 1
    · have := (List.getElem?_eq_some_iff.1 hi).1
      rw [rawL_len] at this
      omega
    · rw [if_neg c]
      exact (LinkMem.raw HLM.out (HBW.out _ h) (p := j + 1) (n := ls.length - (j + 1)) (by omega)).1 i u hi)
  have HO1c : Hid ((∀ u ∈ rawL W lb lo j, u.oneCell' = true) ∧ (∀ u ∈ rawL W lb (lo + (j + 1) * 4) (ls.length - (j + 1)), u.oneCell' = true)) := Lib.hid (by
    have h1 := (LinkMem.raw HLM.out (Below.refl _ W) (p := 0) (n := j) (by omega)).2
    have h2 := (LinkMem.raw HLM.out (Below.refl _ W) (p := j + 1) (n := ls.length - (j + 1)) (by omega)).2
    exact ⟨by simpa using h1, h2⟩)
  suffices key : ∀ (p : Nat) (ga : Option Addr) (gc : Nat) (x66 x71 x76 : Value) (WW : World), Hid (Below w4.heap.size w4 WW) → Hid (WW.heap[p]? = some (.cells #[.int .i64 s, .slice ga (j + (ls.length - (j + 1))) gc] 24 (0, 0))) → Hid (w4.heap.size ≤ p) → Hid (NRow WW (.slice ga (j + (ls.length - (j + 1))) gc) (cutL ls j)) → Exit.then K Q Exit.normal { tmps := #[.agg #[.int .i64 s, .slice (some ⟨lb, lo, none⟩) ls.length oc], .int .i64 m, .int .i64 g, .int .i64 t, .int .u8 n, .agg #[.int .i64 c1, .int .i64 c2], .pointer (some ⟨W.heap.size, 0, none⟩), undef, undef, undef, undef, .pointer (some ⟨W.heap.size + 1, 0, none⟩), .bool false, .slice (some ⟨bk, off, none⟩) s p4, .int .i64 0, .int .i64 j, .pointer (some ⟨p, 0, none⟩), undef, undef, undef, undef, undef, undef, undef, undef, undef, undef, undef, .agg #[.int .i64 s, .slice (some ⟨lb, lo, none⟩) ls.length oc], .bool true, .bool false, .bool false, .pointer (some ⟨W.heap.size, 1, none⟩), .slice (some ⟨lb, lo, none⟩) ls.length oc, .int .i64 ls.length, .bool false, .bool false, undef, .tuple #[.slice (some ⟨bk, off, none⟩) s p4, .int .i64 0], .agg #[.int .i64 s, .slice (some ⟨lb, lo, none⟩) ls.length oc], .int .i64 m, .int .i64 t, .tuple #[.slice (some ⟨bk, off, none⟩) s p4, .int .i64 0], .slice (some ⟨bk, off, none⟩) s p4, .int .i64 0, .int .i64 0, .bool false, .bool false, .int .i64 g, .bool false, .bool false, .bool false, .int .i64 g, .pointer (some ⟨W.heap.size, 0, none⟩), .int .i64 s, .bool false, .bool false, undef, .int .u8 n, .int .i64 n, .pointer (some ⟨W.heap.size, 1, none⟩), .slice (some ⟨lb, lo, none⟩) ls.length oc, .int .i64 ls.length, .int .i64 j, .pointer (some ⟨W.heap.size, 0, none⟩), .int .i64 s, x66, .pointer (some ⟨W.heap.size, 1, none⟩), .slice (some ⟨lb, lo, none⟩) ls.length oc, .int .i64 j, .slice (some ⟨lb, lo, none⟩) j oc, x71, .pointer (some ⟨W.heap.size, 1, none⟩), .slice (some ⟨lb, lo, none⟩) ls.length oc, .int .i64 j, .int .i64 ((j : Int) + 1), x76, .slice ga (j + (ls.length - (j + 1))) gc, .agg #[.int .i64 s, .slice ga (j + (ls.length - (j + 1))) gc], undef, undef, undef, undef, undef, undef, undef, undef, undef, undef, undef, undef, undef, undef, undef, undef, undef, undef, undef, undef, undef, undef, undef, undef, undef, undef, undef, undef, undef, undef, undef, undef, undef, undef, undef, undef, undef, undef, undef, undef, undef, undef, undef, undef, undef, undef, undef, undef, undef, undef, undef, undef, undef, undef, undef, undef, undef, undef, undef, undef, undef, undef, undef, undef, undef, undef, undef, undef, undef, undef, undef, undef, undef, undef, undef, undef, undef, undef, undef, undef, undef, undef, undef, undef, undef, undef, undef, undef, undef, undef, undef, undef, undef, undef, undef, undef, undef, undef, undef, undef, undef, undef, undef, undef, undef, undef, undef, undef, undef, undef, undef, undef, undef, undef, undef, undef, undef, undef, undef, undef, undef, undef, undef, undef, undef, undef, undef, undef, undef, undef, undef, undef, undef, undef, undef, undef, undef, undef, undef, undef, undef, undef, undef, undef, undef, undef, undef, undef, undef, undef, undef, undef, undef, undef, undef, undef], defers := [] } WW by
    have hKD : (fun w' => Below w4.heap.size w4 w' ∧ w'.cell? ⟨W.heap.size, 0, none⟩ = some (.int .i64 s) ∧ w'.cell? ⟨W.heap.size, 1, none⟩ = some (.slice (some ⟨lb, lo, none⟩) ls.length oc)) w4.drew := ⟨(Below.refl _ w4).drew, (HRD.out _ (Below.refl _ w4).drew).1, (HRD.out _ (Below.refl _ w4).drew).2⟩
    have hKB : ∀ w', Below w4.heap.size w4 w' → (fun w' => Below w4.heap.size w4 w' ∧ w'.cell? ⟨W.heap.size, 0, none⟩ = some (.int .i64 s) ∧ w'.cell? ⟨W.heap.size, 1, none⟩ = some (.slice (some ⟨lb, lo, none⟩) ls.length oc)) w' := fun w' h => ⟨h, (HRD.out _ h).1, (HRD.out _ h).2⟩
    have HKD := Lib.hid hKD
    have HKB := Lib.hid hKB
    clear hKD hKB
    go_region_held_law (fun w' => Below w4.heap.size w4 w' ∧ w'.cell? ⟨W.heap.size, 0, none⟩ = some (.int .i64 s) ∧ w'.cell? ⟨W.heap.size, 1, none⟩ = some (.slice (some ⟨lb, lo, none⟩) ls.length oc)) (first
        | exact HKD.out
        | assumption
        | (refine HKB.out _ (Below.alloc (And.left (by assumption)) ?_ _); exact (And.left (by assumption : Below w4.heap.size w4 _ ∧ _)).size)
        | (refine HKB.out _ (Below.setCell (Below.setCell HB6 ?_ _) ?_ _) <;> first | (simp; done) | (simp; omega) | exact Nat.le_refl _)
        | (trace_state; fail)) (first
      | (refine step_append_own rfl (.tmp 66) (.tmp 70) 22 rfl 27 i0 (.agg #[.int .i64 0, .int .i64 0, .int .i64 0, .slice none 0 0]) 4 48 Try.underlying22 hi0 hz0 hz1 hz2 rfl (by decide) w4.heap.size _ 0 [] rfl (by first | exact made_two _ _ | exact World.ownsRow_made _ #[] 0 (by first | (simp; done) | (simp; omega)) (by unfold maxLen; omega) rfl | exact (World.ownsRow_made _ #[] 0 (by first | (simp; done) | (simp; omega)) (by unfold maxLen; omega) rfl).alloc _) ⟨lb, lo, none⟩ j oc (rawL W lb lo j) rfl (rawL_len _ _ _ _) (HQ1.out _ (And.left (by assumption))) HO1c.out.1 (by unfold maxLen; omega) (by omega) (by first | (simp; done) | (simp; omega)) ?_; intro v1 w5 HO1 HG1; have HB5 : Below w4.heap.size w4 w5 := Below.grown (And.left (by assumption)) HG1 (by first | (simp; done) | (simp; omega)) (fun k e => by cases e; first | (simp; done) | (simp; omega) | exact Nat.le_refl _); have hS5 := HKB.out w5 HB5; have hs5 := HB5.size; first
          | (have hN5 := nf_two HG1 rfl)
          | (have hN5 := nf_one HG1 rfl)
          | skip)
      | (refine step_append_own rfl (.tmp 71) (.tmp 76) 22 rfl 27 i0 (.agg #[.int .i64 0, .int .i64 0, .int .i64 0, .slice none 0 0]) 4 48 Try.underlying22 hi0 hz0 hz1 hz2 rfl (by decide) w4.heap.size v1 j (rawL W lb lo j) rfl (by first | simpa using HO1 | simpa using World.ownsRow.alloc HO1 _) (if oc = j + 1 then (⟨lb, lo, none⟩ : Addr) else ⟨lb, lo + (j + 1) * 4, none⟩) (ls.length - (j + 1)) (oc - (j + 1)) (rawL W lb (lo + (j + 1) * 4) (ls.length - (j + 1))) (by simp [Act.eval, Act.put]; split <;> rfl) (rawL_len _ _ _ _) (HQ2.out _ (And.left (by assumption))) HO1c.out.2 (by unfold maxLen; omega) (by omega) (by first | exact hs5 | (simp; done) | (simp; omega)) ?_; intro v2 w6 HO2 HG2; obtain ⟨ga, gc, rfl⟩ := row_form HO2; have HB6 : Below w4.heap.size w4 w6 := Below.grown (And.left (by assumption)) HG2 (by first | exact hs5 | (simp; done) | (simp; omega)) (fun k e => (HO1.lt k e).1); have hS6 := HKB.out w6 HB6; have hs6 := HB6.size; first
          | (have hN6 := (HG2.block _ (Array.getElem?_eq_some_iff.1 hN5).1 (own_ne HO1 hN5 tNeNL)).trans hN5; have x0 := cellH hN6 0; have x1 := cellH hN6 1; have f0 := freeH hN6 0; have f1 := freeH hN6 1; simp at x0 x1)
          | (have hN6 : w6.heap[w5.heap.size]? = some (.cells #[.int .i64 0, .slice none 0 0] 24 (0, 0)) := (HG2.block w5.heap.size (by simp) (fun e => by have := (HO1.lt _ e.symm).2; omega)).trans (heap_alloc_new w5 _); have x0 := cellH hN6 0; have x1 := cellH hN6 1; have f0 := freeH hN6 0; have f1 := freeH hN6 1; simp at x0 x1)
          | skip))
    all_goals have HCR : ∀ (w' : World) (v : Value), Below w4.heap.size w4 w' → w'.ownsRow w4.heap.size 27 4 v (j + (ls.length - (j + 1))) (rawL W lb lo j ++ rawL W lb (lo + (j + 1) * 4) (ls.length - (j + 1))) → NRow w' v (cutL ls j) := fun w' v h h' => (cut_row (WW := w') HLM.out hjl (HBW.out w' h) HV.out.op (by omega) h').1
    all_goals clear hK
    all_goals first
      | exact key w6.heap.size ga gc _ _ _ _ (Lib.hid (HB6.alloc hs6 _)) (Lib.hid (heap_alloc_new w6 _)) (Lib.hid hs6) (Lib.hid ((HCR _ _ HB6 HO2).keep ((Below.refl _ w6).alloc (Nat.le_refl _) _)))
      | exact key _ ga gc _ _ _ _ (Lib.hid (And.left (by assumption))) (Lib.hid (set_pair5 hN6)) (Lib.hid (by first | exact Nat.le_refl _ | exact hs5 | omega)) (Lib.hid (HCR _ _ (And.left (by assumption)) (row_set (row_set HO2 hN6 tNeNL 0 _) (heap_same hN6 0 _) tNeNL 1 _)))
  intro p ga gc x66 x71 x76 WW HWB HWN HWP HWR
  show K _ _
  apply hK
  clear hK
  have HCU : Hid (netE s (cutL ls j) = 0) := Lib.hid (netE_all s1 s10 (by rw [cutL_len hjl]; omega) (fun k hk => HNE.out.2 k (cutL_mem hk)))
  have HNO : Hid (netE s ls = 0) := Lib.hid (startE_ok HE.out).1
  have HEC : Hid (startE s (cutL ls j) m t = 0) := Lib.hid (startE_of HNO.out HCU.out HE.out)
  obtain ⟨N, hN⟩ : ∃ N, j + (ls.length - (j + 1)) = N := ⟨_, rfl⟩
  rw [hN] at HWN HWR ⊢
  clear hN
  have HC5 := Lib.hid (fun w' (h : Below WW.heap.size WW w') => Earliest_any s (.slice ga N gc) (cutL ls j) m t w' (HWR.out.keep h))
  unfold ntV at HC5
  clear n0 n1
  have r0 := (HRD.out WW HWB.out).1
  have r1 := (HRD.out WW HWB.out).2
  have x0 := cellH HWN.out 0
  have x1 := cellH HWN.out 1
  simp at x0 x1
  have hpw : p < WW.heap.size := (Array.getElem?_eq_some_iff.1 HWN.out).1
  go_wp2_with fail
  refine (HC5.out _ (Below.refl _ _)).mono ?_
  rintro e w8 h8
  obtain ⟨v8, bt, rfl, hb8, hi8, hq8⟩ := early_q h8
  rw [HEC.out]
  obtain ⟨by8, k2, k3⟩ := hq8 HEC.out
  simp only [Int.toNat_natCast] at k2
  obtain ⟨a8, p8, rfl, hc8⟩ := hi8.form
  have hl8 : bt.length = s := k2.la
  rw [hl8] at hc8 ⊢
  obtain ⟨bb, bo, rfl, hbb, _⟩ := hc8 g hgs
  have HIB := Lib.hid k2
  have HSB := Lib.hid k3
  have HCB : Hid (∀ W', Below w8.heap.size w8 W' → ∀ k, k < s → W'.cell? ⟨bb, bo + k, none⟩ = some (.int .i64 (at0 bt k))) := Lib.hid (fun W' h k hk => by
    obtain ⟨b', o', e', hlt, hc⟩ := hc8 k hk
    cases e'
    exact (h.cell (p := ⟨bb, _, none⟩) hlt).trans hc)
  have HB8 := Lib.hid (HWB.out.trans (hb8.mono HWB.out.size))
  have HD8 := Lib.hid (HD4.out.trans (HB8.out.mono HD4.out.size))
  have HA8 := Lib.hid (HB4.out.trans (HB8.out.mono HB4.out.size))
  clear h8 hb8 hi8 hq8 k2 k3 hc8 hl8 r0 r1 x0 x1 hbb
  obtain ⟨m0, m1, hq0, _⟩ := HA.out w8 HD8.out
  have n0 := cellH m0 0
  have n1 := cellH m0 1
  have y0 := cellH m1 0
  have y1 := cellH m1 1
  simp at n0 n1 y0 y1
  clear m0 m1
  go_wp2_with fail
  refine (HC3.out _ HA8.out).mono ?_
  rintro e w9 ⟨za, zu, rfl, hb9, hz1', hz2'⟩
  obtain ⟨q, hq⟩ : ∃ q, closedE s ls (c1, c2) = q := ⟨_, rfl⟩
  rw [hq] at hz1' hz2' ⊢
  obtain ⟨zl, HZR, HZ1, HZ2⟩ : ∃ zl, Hid (NRow w9 zu zl) ∧ Hid (q ≠ 0 → za = 0 ∧ zl = []) ∧ Hid (q = 0 → za = s ∧ zl = closeL ls (c1, c2)) := by
    by_cases hq0 : q = 0
    · obtain ⟨e1, e2⟩ := hz2' hq0
      exact ⟨closeL ls (c1, c2), Lib.hid e2, Lib.hid (fun h => absurd hq0 h), Lib.hid (fun _ => ⟨e1, rfl⟩)⟩
    · obtain ⟨e1, e2⟩ := hz1' hq0
      subst e2
      exact ⟨[], Lib.hid ⟨.inl ⟨_, _, rfl, rfl⟩, by simp, by simp⟩, Lib.hid (fun _ => ⟨e1, rfl⟩), Lib.hid (fun h => absurd h hq0)⟩
  have HQ := Lib.hid hq
  clear hq hz1' hz2'
  obtain ⟨zg, zc, rfl, _⟩ := HZR.out.row.form
  have hba := (Below.refl w9.heap.size w9).alloc (Nat.le_refl _) (.cells #[.int .i64 za, (.slice zg zl.length zc)] 24)
  have HNX : Hid ((w9.alloc (.cells #[.int .i64 za, (.slice zg zl.length zc)] 24)).heap[w9.heap.size]? = some (.cells #[.int .i64 za, (.slice zg zl.length zc)] 24 (0, 0))) := Lib.hid (heap_alloc_new _ _)
  have HC6 := Lib.hid (fun w' (h : Below w9.heap.size w9 w') => Earliest_any za (.slice zg zl.length zc) zl m t w' (HZR.out.keep h))
  unfold ntV at HC6
  have HB9 := Lib.hid (HB8.out.trans (hb9.mono HB8.out.size))
  have HG9 := Lib.hid hb9
  clear hb9 n0 n1 y0 y1 hq0
  go_wp2_with fail
  refine (HC6.out _ hba).mono ?_
  rintro e w10 h10
  obtain ⟨v10, ct, rfl, hb10, hi10, hq10⟩ := early_q h10
  obtain ⟨hh, hhh⟩ : ∃ hh, startE za zl m t = hh := ⟨_, rfl⟩
  rw [hhh]
  obtain ⟨a10, p10, rfl, hc10⟩ := hi10.form
  have hX := hba.trans (hb10.mono hba.size)
  have HB10 := Lib.hid (HB9.out.trans (hX.mono HB9.out.size))
  have HG10 := Lib.hid (HG9.out.trans (hX.mono HG9.out.size))
  have HD10 := Lib.hid (HD4.out.trans (HB10.out.mono HD4.out.size))
  have HA10 := Lib.hid (HB4.out.trans (HB10.out.mono HB4.out.size))
  have HAB : Hid (∀ k, k < s → 0 ≤ at0 bt k → 0 ≤ at0 at' k ∧ at0 at' k ≤ at0 bt k) := Lib.hid (fun k hk h => no_earlier HIB.out HI.out HS.out (fun k m h => ⟨m, Int.le_refl _, walk_cut hjl h⟩) hk h)
  have HC0 : Hid (q = 0 → hh = 0 ∧ ct.length = s ∧ ∃ cb co, a10 = some ⟨cb, co, none⟩ ∧ (∀ W', Below w10.heap.size w10 W' → ∀ k, k < s → W'.cell? ⟨cb, co + k, none⟩ = some (.int .i64 (at0 ct k))) ∧ ∀ k, k < s → 0 ≤ at0 ct k → 0 ≤ at0 at' k ∧ at0 at' k ≤ at0 ct k) := Lib.hid (fun h => by
    obtain ⟨e1, e2⟩ := HZ2.out h
    obtain ⟨hc, hn⟩ := close_ok HNO.out (HQ.out.trans h)
    have hE0 := startE_of HNO.out hn HE.out
    subst e1
    subst e2
    rw [hE0] at hhh
    obtain ⟨by0, i1, i2⟩ := hq10 hE0
    simp only [Int.toNat_natCast] at i1
    have hl : ct.length = s := i1.la
    rw [hl] at hc10
    obtain ⟨cb, co, rfl, _⟩ := hc10 g hgs
    refine ⟨hhh.symm, hl, cb, co, rfl, fun W' h k hk => ?_, fun k hk h0 => no_earlier i1 HI.out HS.out (fun k m h => walk_close hc (fun k hk => (HNE.out.2 k hk).2) h) hk h0⟩
    obtain ⟨b', o', e', hlt, hc⟩ := hc10 k hk
    cases e'
    exact (h.cell (p := ⟨cb, _, none⟩) hlt).trans hc)
  clear h10 hb10 hi10 hq10 hc10 hhh hba hX
  have n0 := (HRD.out _ HB10.out).1
  have n1 := (HRD.out _ HB10.out).2
  by_cases hq0 : q = 0
  case neg =>
    have hz0 : (q == 0) = false := by simpa using hq0
    clear hq0 HC0 HC5 HC6
    go_wp2_with fail
    go_loopw [23] (fun i wr => ∃ k : Nat, k ≤ s ∧ i = .int .i64 k ∧ Hid (Below w10.heap.size w10 wr)) (fun i _ => s - (intOf i).toNat)
    case atStart => exact ⟨0, Nat.zero_le _, rfl, Lib.hid (Below.refl _ _)⟩
    case round =>
      clear n0 n1
      obtain ⟨k, hk, rfl, hBr⟩ := hrel
      have HBR := Lib.hid (HB10.out.trans (hBr.out.mono HB10.out.size))
      have r0 := (HRD.out _ HBR.out).1
      by_cases hkl : k < s
      · have hki : (k : Int) < s := by omega
        have hk0 : (0 : Int) ≤ k := by omega
        have ca := HCE.out wr HBR.out k hkl
        have cb' := HCB.out wr (HG10.out.trans (hBr.out.mono HG10.out.size)) k hkl
        have hab := HAB.out k hkl
        obtain ⟨u, hu⟩ : ∃ u, at0 at' k = u := ⟨_, rfl⟩
        obtain ⟨v, hv⟩ : ∃ v, at0 bt k = v := ⟨_, rfl⟩
        rw [hu] at ca hab
        rw [hv] at cb' hab
        clear hu hv
        by_cases hv0 : 0 ≤ v
        · have pa0 : decide (0 ≤ v) = true := decide_eq_true hv0
          obtain ⟨hv1, hv2⟩ := hab hv0
          have pa1 : decide (u < 0) = false := decide_eq_false (by omega)
          have pa2 : decide (v < u) = false := decide_eq_false (by omega)
          clear hv0 hv1 hv2 hab
          go_wp2_with fail
          go_quiet (fail)
          go_wp2_with fail
          go_roundw
          case rel => exact ⟨k + 1, by omega, by go_num, Lib.hid (below_drewN hBr.out _)⟩
          case measure => simp [intOf]; omega
        · have pa0 : decide (0 ≤ v) = false := decide_eq_false hv0
          clear hv0 hab
          go_wp2_with fail
          go_quiet (fail)
          go_wp2_with fail
          go_roundw
          case rel => exact ⟨k + 1, by omega, by go_num, Lib.hid (below_drewN hBr.out _)⟩
          case measure => simp [intOf]; omega
      · obtain rfl : s = k := by omega
        have HNA := Lib.hid (HB4.out.trans (HBR.out.mono HB4.out.size))
        have HWE : Hid (wayE s ls m g t = 0) := Lib.hid (by
          unfold wayE stB
          rw [if_pos HE.out, if_pos (by simp only [Bool.and_eq_true, decide_eq_true_eq]; omega)])
        have r1 := (HRD.out _ HBR.out).2
        go_wp2_with fail
        refine (HC4.out _ HNA.out).mono ?_
        rintro e w11 ⟨v11, q11, rfl, hb11, _, hy11⟩
        obtain ⟨at2, by2, i1, i2, hcase⟩ := hy11 HWE.out
        simp only [Int.toNat_natCast] at i1 hcase
        have e2 := Inv.unique HI.out i1 HS.out i2
        subst e2
        have HB11 := Lib.hid (HBR.out.trans (hb11.mono HBR.out.size))
        have HG11 := Lib.hid (HG10.out.trans ((hBr.out.trans (hb11.mono hBr.out.size)).mono HG10.out.size))
        clear hb11 hy11 i1 i2
        rcases hcase with ⟨hneg, rfl, rfl⟩ | ⟨hpos, rfl, c, hc, hr⟩
        · obtain ⟨y, hy⟩ : ∃ y, at0 at' g = y := ⟨_, rfl⟩
          rw [hy] at hneg
          have d1 : decide (y < 0) = true := decide_eq_true hneg
          go_wp2_with fail
          refine (nets_any _).mono ?_
          rintro e wN ⟨rfl, hbN⟩
          have HBN := Lib.hid (HB11.out.trans (hbN.mono HB11.out.size))
          have ca := HCE.out wN HBN.out g hgs
          rw [hy] at ca
          have HN := Lib.hid (HB4.out.trans (HBN.out.mono HB4.out.size))
          clear hbN hy hneg
          go_wp2_with fail
          go_ret
          exact ⟨rfl, HN.out⟩
        obtain ⟨a11, p11, rfl, hc11⟩ := hr.form
        have HC11 := Lib.hid hc11
        obtain ⟨at3, by3, i3, s3, hcj⟩ := hc j hjl
        have hcl := cut_less hjl HIB.out HSB.out i3 s3 hgs
        rw [← hcl] at hcj
        have HCJ := Lib.hid hcj
        have HLE := Lib.hid (numsL_len c ls.length)
        have HAJ := Lib.hid (numsL_any c ls.length j hjl)
        obtain ⟨l, hl⟩ : ∃ l, numsL c ls.length = l := ⟨_, rfl⟩
        rw [hl] at HC11 HLE HAJ ⊢
        clear hc11 hc hr hcj hcl hl i3 s3 hpos
        go_wp2_with fail
        go_loopw [26, 27] (fun b i wr => ∃ k : Nat, k ≤ l.length ∧ i = .int .i64 k ∧ b = .bool ((l.take k).any (· == (j : Int))) ∧ Hid (Below w11.heap.size w11 wr)) (fun _ i _ => l.length - (intOf i).toNat)
        case atStart => exact ⟨0, Nat.zero_le _, rfl, by simp, Lib.hid (Below.refl _ _)⟩
        case round =>
          obtain ⟨k, hk, rfl, rfl, hBr2⟩ := hrel
          have hlk : l.length ≤ 40 := by have := HLE.out; omega
          by_cases hkl : k < l.length
          · have hki : (k : Int) < l.length := by omega
            have hk0 : (0 : Int) ≤ k := by omega
            have HNX := Lib.hid (any_take_succ (j : Int) hkl)
            obtain ⟨Bk, hB⟩ : ∃ Bk, (l.take k).any (· == (j : Int)) = Bk := ⟨_, rfl⟩
            obtain ⟨x, hx⟩ : ∃ x, l.getD k 0 = x := ⟨_, rfl⟩
            rw [hB, hx] at HNX
            rw [hB]
            obtain ⟨eb, eo, ea, helt, hec⟩ := HC11.out k hkl
            subst ea
            have cx : wr.cell? ⟨eb, eo + k, none⟩ = some (.int .i64 x) := by
              rw [← hx]; exact (hBr2.out.cell (p := ⟨eb, _, none⟩) helt).trans hec
            clear hB hx hec
            cases Bk
            · by_cases hxj : x = (j : Int)
              · have q7 : (x == (j : Int)) = true := by simpa using hxj
                rw [q7] at HNX
                clear hxj
                go_wp2_with fail
                go_roundw
                case rel => exact ⟨k + 1, by omega, by go_num, by rw [HNX.out]; rfl, hBr2⟩
                case measure => simp [intOf]; omega
              · have q7 : (x == (j : Int)) = false := by simpa using hxj
                rw [q7] at HNX
                clear hxj
                go_wp2_with fail
                go_roundw
                case rel => exact ⟨k + 1, by omega, by go_num, by rw [HNX.out]; rfl, hBr2⟩
                case measure => simp [intOf]; omega
            · go_wp2_with fail
              go_roundw
              case rel => exact ⟨k + 1, by omega, by go_num, by rw [HNX.out]; rfl, hBr2⟩
              case measure => simp [intOf]; omega
          · obtain rfl : l.length = k := by omega
            have hBB : (l.take l.length).any (· == (j : Int)) = decide (at0 bt g ≠ at0 at' g) := by
              rw [List.take_length]; exact HAJ.out.trans HCJ.out
            rw [hBB]
            obtain ⟨y, hy⟩ : ∃ y, at0 at' g = y := ⟨_, rfl⟩
            obtain ⟨z, hz⟩ : ∃ z, at0 bt g = z := ⟨_, rfl⟩
            rw [hy, hz]
            have HY := Lib.hid hy
            have HZ := Lib.hid hz
            clear hBB hy hz
            obtain ⟨W9, hW9⟩ : ∃ W9, wr = W9 := ⟨_, rfl⟩
            have HB9 := Lib.hid hBr2.out
            rw [hW9] at HB9
            have HWW := Lib.hid hW9
            clear hW9
            have KA : Hid (∀ W', Below W9.heap.size W9 W' → W'.cell? ⟨bk, off + g, none⟩ = some (.int .i64 y) ∧ W'.cell? ⟨bb, bo + g, none⟩ = some (.int .i64 z)) := Lib.hid (fun W' h => by
              have h1 := HB9.out.trans (h.mono HB9.out.size)
              have k1 := HCE.out W' (HB11.out.trans (h1.mono HB11.out.size)) g hgs
              have k2 := HCB.out W' (HG11.out.trans (h1.mono HG11.out.size)) g hgs
              rw [HY.out] at k1
              rw [HZ.out] at k2
              exact ⟨k1, k2⟩)
            have KB : Hid (∀ W', Below W9.heap.size W9 W' → Below W.heap.size W W') := Lib.hid (fun W' h => by
              have h1 := HB9.out.trans (h.mono HB9.out.size)
              have h2 := HB11.out.trans (h1.mono HB11.out.size)
              exact HB4.out.trans (h2.mono HB4.out.size))
            have CN : Hid (∀ w', Below W9.heap.size W9 w' → Calls Try.prog 11 #[] w' fun e w'' => e = .returned (.bool true) ∧ Below W9.heap.size W9 w'') := Lib.hid (fun w' h => (nets_any w').mono fun e w'' ⟨he, hh⟩ => ⟨he, h.trans (hh.mono h.size)⟩)
            by_cases hzy : z = y
            case pos =>
              have q8 : (z != y) = false := by simpa using hzy
              have q9 : decide (z ≠ y) = false := by simpa using hzy
              rw [q9]
              clear hzy q9
              go_wp2_with fail
              rw [HWW.out]
              refine wp_region_turn 14 (fun _ w' => Below W9.heap.size W9 w') (by kernel_rfl) (by kernel_rfl) ((Below.refl _ W9).drew) ?_
              simp only [List.take_succ_cons, List.take_zero, List.drop_succ_cons, List.drop_zero]
              iterate 14
                (first
                  | (apply turnC_step (by rfl); (intro w' hw'; go_simp; exact CN.out w' hw'))
                  | (apply turnC_step (by rfl); (intro w' hw'; obtain ⟨q0, q1⟩ := KA.out w' hw'; go_simp; first | exact ⟨hw', rfl⟩ | exact rfl))
                  | (apply turnC_skip (by rfl)))
                simp only [Act.put, List.setIfInBounds_toArray, List.set_cons_succ, List.set_cons_zero]
              intro listed w12 _ hw12
              have HB12 := Lib.hid (KB.out _ hw12)
              clear hw12
              go_wp2_with fail
              go_ret
              exact ⟨rfl, HB12.out⟩
            case neg =>
              have q8 : (z != y) = true := by simpa using hzy
              have q9 : decide (z ≠ y) = true := by simpa using hzy
              rw [q9]
              clear hzy q9
              go_wp2_with fail
              rw [HWW.out]
              refine wp_region_turn 14 (fun _ w' => Below W9.heap.size W9 w') (by kernel_rfl) (by kernel_rfl) ((Below.refl _ W9).drew) ?_
              simp only [List.take_succ_cons, List.take_zero, List.drop_succ_cons, List.drop_zero]
              iterate 14
                (first
                  | (apply turnC_step (by rfl); (intro w' hw'; go_simp; exact CN.out w' hw'))
                  | (apply turnC_step (by rfl); (intro w' hw'; obtain ⟨q0, q1⟩ := KA.out w' hw'; go_simp; first | exact ⟨hw', rfl⟩ | exact rfl))
                  | (apply turnC_skip (by rfl)))
                simp only [Act.put, List.setIfInBounds_toArray, List.set_cons_succ, List.set_cons_zero]
              intro listed w12 _ hw12
              have HB12 := Lib.hid (KB.out _ hw12)
              clear hw12
              go_wp2_with fail
              go_ret
              exact ⟨rfl, HB12.out⟩
  case pos =>
    obtain ⟨e1, e2, cb, co, e3, hcc, hce⟩ := HC0.out hq0
    subst hq0
    subst e1
    subst e3
    rw [e2]
    have HCC := Lib.hid hcc
    have HCA := Lib.hid hce
    clear e2 hcc hce HC0 HC5 HC6
    go_wp2_with fail
    go_loopw [23] (fun i wr => ∃ k : Nat, k ≤ s ∧ i = .int .i64 k ∧ Hid (Below w10.heap.size w10 wr)) (fun i _ => s - (intOf i).toNat)
    case atStart => exact ⟨0, Nat.zero_le _, rfl, Lib.hid (Below.refl _ _)⟩
    case round =>
      clear n0 n1
      obtain ⟨k, hk, rfl, hBr⟩ := hrel
      have HBR := Lib.hid (HB10.out.trans (hBr.out.mono HB10.out.size))
      have r0 := (HRD.out _ HBR.out).1
      by_cases hkl : k < s
      · have hki : (k : Int) < s := by omega
        have hk0 : (0 : Int) ≤ k := by omega
        have ca := HCE.out wr HBR.out k hkl
        have cb' := HCB.out wr (HG10.out.trans (hBr.out.mono HG10.out.size)) k hkl
        have hab := HAB.out k hkl
        have cc := HCC.out wr hBr.out k hkl
        have hac := HCA.out k hkl
        obtain ⟨x, hx⟩ : ∃ x, at0 ct k = x := ⟨_, rfl⟩
        rw [hx] at cc hac
        clear hx
        obtain ⟨u, hu⟩ : ∃ u, at0 at' k = u := ⟨_, rfl⟩
        obtain ⟨v, hv⟩ : ∃ v, at0 bt k = v := ⟨_, rfl⟩
        rw [hu] at ca hab hac
        rw [hv] at cb' hab
        clear hu hv
        by_cases hv0 : 0 ≤ v
        · have pa0 : decide (0 ≤ v) = true := decide_eq_true hv0
          obtain ⟨hv1, hv2⟩ := hab hv0
          have pa1 : decide (u < 0) = false := decide_eq_false (by omega)
          have pa2 : decide (v < u) = false := decide_eq_false (by omega)
          clear hv0 hv1 hv2 hab
          by_cases hx0 : 0 ≤ x
          · have pb0 : decide (0 ≤ x) = true := decide_eq_true hx0
            obtain ⟨hx1, hx2⟩ := hac hx0
            have pb1 : decide (u < 0) = false := decide_eq_false (by omega)
            have pb2 : decide (x < u) = false := decide_eq_false (by omega)
            clear hx0 hx1 hx2 hac
            go_wp2_with fail
            go_quiet (fail)
            go_wp2_with fail
            go_roundw
            case rel => exact ⟨k + 1, by omega, by go_num, Lib.hid (below_drewN hBr.out _)⟩
            case measure => simp [intOf]; omega
          · have pb0 : decide (0 ≤ x) = false := decide_eq_false hx0
            clear hx0 hac
            go_wp2_with fail
            go_quiet (fail)
            go_wp2_with fail
            go_roundw
            case rel => exact ⟨k + 1, by omega, by go_num, Lib.hid (below_drewN hBr.out _)⟩
            case measure => simp [intOf]; omega
        · have pa0 : decide (0 ≤ v) = false := decide_eq_false hv0
          clear hv0 hab
          by_cases hx0 : 0 ≤ x
          · have pb0 : decide (0 ≤ x) = true := decide_eq_true hx0
            obtain ⟨hx1, hx2⟩ := hac hx0
            have pb1 : decide (u < 0) = false := decide_eq_false (by omega)
            have pb2 : decide (x < u) = false := decide_eq_false (by omega)
            clear hx0 hx1 hx2 hac
            go_wp2_with fail
            go_quiet (fail)
            go_wp2_with fail
            go_roundw
            case rel => exact ⟨k + 1, by omega, by go_num, Lib.hid (below_drewN hBr.out _)⟩
            case measure => simp [intOf]; omega
          · have pb0 : decide (0 ≤ x) = false := decide_eq_false hx0
            clear hx0 hac
            go_wp2_with fail
            go_quiet (fail)
            go_wp2_with fail
            go_roundw
            case rel => exact ⟨k + 1, by omega, by go_num, Lib.hid (below_drewN hBr.out _)⟩
            case measure => simp [intOf]; omega
      · obtain rfl : s = k := by omega
        have HNA := Lib.hid (HB4.out.trans (HBR.out.mono HB4.out.size))
        have HWE : Hid (wayE s ls m g t = 0) := Lib.hid (by
          unfold wayE stB
          rw [if_pos HE.out, if_pos (by simp only [Bool.and_eq_true, decide_eq_true_eq]; omega)])
        have r1 := (HRD.out _ HBR.out).2
        go_wp2_with fail
        refine (HC4.out _ HNA.out).mono ?_
        rintro e w11 ⟨v11, q11, rfl, hb11, _, hy11⟩
        obtain ⟨at2, by2, i1, i2, hcase⟩ := hy11 HWE.out
        simp only [Int.toNat_natCast] at i1 hcase
        have e2 := Inv.unique HI.out i1 HS.out i2
        subst e2
        have HB11 := Lib.hid (HBR.out.trans (hb11.mono HBR.out.size))
        have HG11 := Lib.hid (HG10.out.trans ((hBr.out.trans (hb11.mono hBr.out.size)).mono HG10.out.size))
        clear hb11 hy11 i1 i2
        rcases hcase with ⟨hneg, rfl, rfl⟩ | ⟨hpos, rfl, c, hc, hr⟩
        · obtain ⟨y, hy⟩ : ∃ y, at0 at' g = y := ⟨_, rfl⟩
          rw [hy] at hneg
          have d1 : decide (y < 0) = true := decide_eq_true hneg
          go_wp2_with fail
          refine (nets_any _).mono ?_
          rintro e wN ⟨rfl, hbN⟩
          have HBN := Lib.hid (HB11.out.trans (hbN.mono HB11.out.size))
          have ca := HCE.out wN HBN.out g hgs
          rw [hy] at ca
          have HN := Lib.hid (HB4.out.trans (HBN.out.mono HB4.out.size))
          clear hbN hy hneg
          go_wp2_with fail
          go_ret
          exact ⟨rfl, HN.out⟩
        obtain ⟨a11, p11, rfl, hc11⟩ := hr.form
        have HC11 := Lib.hid hc11
        obtain ⟨at3, by3, i3, s3, hcj⟩ := hc j hjl
        have hcl := cut_less hjl HIB.out HSB.out i3 s3 hgs
        rw [← hcl] at hcj
        have HCJ := Lib.hid hcj
        have HLE := Lib.hid (numsL_len c ls.length)
        have HAJ := Lib.hid (numsL_any c ls.length j hjl)
        obtain ⟨l, hl⟩ : ∃ l, numsL c ls.length = l := ⟨_, rfl⟩
        rw [hl] at HC11 HLE HAJ ⊢
        clear hc11 hc hr hcj hcl hl i3 s3 hpos
        go_wp2_with fail
        go_loopw [26, 27] (fun b i wr => ∃ k : Nat, k ≤ l.length ∧ i = .int .i64 k ∧ b = .bool ((l.take k).any (· == (j : Int))) ∧ Hid (Below w11.heap.size w11 wr)) (fun _ i _ => l.length - (intOf i).toNat)
        case atStart => exact ⟨0, Nat.zero_le _, rfl, by simp, Lib.hid (Below.refl _ _)⟩
        case round =>
          obtain ⟨k, hk, rfl, rfl, hBr2⟩ := hrel
          have hlk : l.length ≤ 40 := by have := HLE.out; omega
          by_cases hkl : k < l.length
          · have hki : (k : Int) < l.length := by omega
            have hk0 : (0 : Int) ≤ k := by omega
            have HNX := Lib.hid (any_take_succ (j : Int) hkl)
            obtain ⟨Bk, hB⟩ : ∃ Bk, (l.take k).any (· == (j : Int)) = Bk := ⟨_, rfl⟩
            obtain ⟨x, hx⟩ : ∃ x, l.getD k 0 = x := ⟨_, rfl⟩
            rw [hB, hx] at HNX
            rw [hB]
            obtain ⟨eb, eo, ea, helt, hec⟩ := HC11.out k hkl
            subst ea
            have cx : wr.cell? ⟨eb, eo + k, none⟩ = some (.int .i64 x) := by
              rw [← hx]; exact (hBr2.out.cell (p := ⟨eb, _, none⟩) helt).trans hec
            clear hB hx hec
            cases Bk
            · by_cases hxj : x = (j : Int)
              · have q7 : (x == (j : Int)) = true := by simpa using hxj
                rw [q7] at HNX
                clear hxj
                go_wp2_with fail
                go_roundw
                case rel => exact ⟨k + 1, by omega, by go_num, by rw [HNX.out]; rfl, hBr2⟩
                case measure => simp [intOf]; omega
              · have q7 : (x == (j : Int)) = false := by simpa using hxj
                rw [q7] at HNX
                clear hxj
                go_wp2_with fail
                go_roundw
                case rel => exact ⟨k + 1, by omega, by go_num, by rw [HNX.out]; rfl, hBr2⟩
                case measure => simp [intOf]; omega
            · go_wp2_with fail
              go_roundw
              case rel => exact ⟨k + 1, by omega, by go_num, by rw [HNX.out]; rfl, hBr2⟩
              case measure => simp [intOf]; omega
          · obtain rfl : l.length = k := by omega
            have hBB : (l.take l.length).any (· == (j : Int)) = decide (at0 bt g ≠ at0 at' g) := by
              rw [List.take_length]; exact HAJ.out.trans HCJ.out
            rw [hBB]
            obtain ⟨y, hy⟩ : ∃ y, at0 at' g = y := ⟨_, rfl⟩
            obtain ⟨z, hz⟩ : ∃ z, at0 bt g = z := ⟨_, rfl⟩
            rw [hy, hz]
            have HY := Lib.hid hy
            have HZ := Lib.hid hz
            clear hBB hy hz
            obtain ⟨W9, hW9⟩ : ∃ W9, wr = W9 := ⟨_, rfl⟩
            have HB9 := Lib.hid hBr2.out
            rw [hW9] at HB9
            have HWW := Lib.hid hW9
            clear hW9
            have KA : Hid (∀ W', Below W9.heap.size W9 W' → W'.cell? ⟨bk, off + g, none⟩ = some (.int .i64 y) ∧ W'.cell? ⟨bb, bo + g, none⟩ = some (.int .i64 z)) := Lib.hid (fun W' h => by
              have h1 := HB9.out.trans (h.mono HB9.out.size)
              have k1 := HCE.out W' (HB11.out.trans (h1.mono HB11.out.size)) g hgs
              have k2 := HCB.out W' (HG11.out.trans (h1.mono HG11.out.size)) g hgs
              rw [HY.out] at k1
              rw [HZ.out] at k2
              exact ⟨k1, k2⟩)
            have KB : Hid (∀ W', Below W9.heap.size W9 W' → Below W.heap.size W W') := Lib.hid (fun W' h => by
              have h1 := HB9.out.trans (h.mono HB9.out.size)
              have h2 := HB11.out.trans (h1.mono HB11.out.size)
              exact HB4.out.trans (h2.mono HB4.out.size))
            have CN : Hid (∀ w', Below W9.heap.size W9 w' → Calls Try.prog 11 #[] w' fun e w'' => e = .returned (.bool true) ∧ Below W9.heap.size W9 w'') := Lib.hid (fun w' h => (nets_any w').mono fun e w'' ⟨he, hh⟩ => ⟨he, h.trans (hh.mono h.size)⟩)
            by_cases hzy : z = y
            case pos =>
              have q8 : (z != y) = false := by simpa using hzy
              have q9 : decide (z ≠ y) = false := by simpa using hzy
              rw [q9]
              clear hzy q9
              go_wp2_with fail
              rw [HWW.out]
              refine wp_region_turn 14 (fun _ w' => Below W9.heap.size W9 w') (by kernel_rfl) (by kernel_rfl) ((Below.refl _ W9).drew) ?_
              simp only [List.take_succ_cons, List.take_zero, List.drop_succ_cons, List.drop_zero]
              iterate 14
                (first
                  | (apply turnC_step (by rfl); (intro w' hw'; go_simp; exact CN.out w' hw'))
                  | (apply turnC_step (by rfl); (intro w' hw'; obtain ⟨q0, q1⟩ := KA.out w' hw'; go_simp; first | exact ⟨hw', rfl⟩ | exact rfl))
                  | (apply turnC_skip (by rfl)))
                simp only [Act.put, List.setIfInBounds_toArray, List.set_cons_succ, List.set_cons_zero]
              intro listed w12 _ hw12
              have HB12 := Lib.hid (KB.out _ hw12)
              clear hw12
              go_wp2_with fail
              go_ret
              exact ⟨rfl, HB12.out⟩
            case neg =>
              have q8 : (z != y) = true := by simpa using hzy
              have q9 : decide (z ≠ y) = true := by simpa using hzy
              rw [q9]
              clear hzy q9
              go_wp2_with fail
              rw [HWW.out]
              refine wp_region_turn 14 (fun _ w' => Below W9.heap.size W9 w') (by kernel_rfl) (by kernel_rfl) ((Below.refl _ W9).drew) ?_
              simp only [List.take_succ_cons, List.take_zero, List.drop_succ_cons, List.drop_zero]
              iterate 14
                (first
                  | (apply turnC_step (by rfl); (intro w' hw'; go_simp; exact CN.out w' hw'))
                  | (apply turnC_step (by rfl); (intro w' hw'; obtain ⟨q0, q1⟩ := KA.out w' hw'; go_simp; first | exact ⟨hw', rfl⟩ | exact rfl))
                  | (apply turnC_skip (by rfl)))
                simp only [Act.put, List.setIfInBounds_toArray, List.set_cons_succ, List.set_cons_zero]
              intro listed w12 _ hw12
              have HB12 := Lib.hid (KB.out _ hw12)
              clear hw12
              go_wp2_with fail
              go_ret
              exact ⟨rfl, HB12.out⟩
end Go.Proofs.Yteghcdabaigcbaa
