/- Needed of package relay. -/
import Derived.Test.YtiboolbndfhomaaNB9
set_option linter.unusedVariables false
set_option linter.unusedSimpArgs false
namespace Go.Proofs.Ytiboolbndfhomaa
open Go.RowKit

theorem lessL_len (ls : List Lk) (i : Nat) : (lessL ls i).length = ls.length := by unfold lessL; rw [List.length_set]
theorem lessL_ok {st : Int} {ls : List Lk} {i : Nat} (hi : i < ls.length) (h : ∀ k ∈ ls, endsB st k = true ∧ linkE k = 0) : ∀ k ∈ lessL ls i, endsB st k = true ∧ linkE k = 0 := fun k hk => by
  unfold lessL at hk
  rcases List.mem_or_eq_of_mem_set hk with h1 | h1
  · exact h k h1
  · obtain ⟨h2, h3⟩ := h _ (lk_mem hi)
    rw [h1]
    refine ⟨h2, ?_⟩
    obtain ⟨d1, d2, _, _⟩ := linkE_ok h3
    unfold linkE shutK
    simp only
    rw [if_neg (by omega), if_neg (by simp)]; rfl
/-- The numbers below k that c names. -/
def numsL (c : Nat → Bool) (k : Nat) : List Int := ((List.range k).filter c).map fun (i : Nat) => (i : Int)
theorem numsL_succ (c : Nat → Bool) (k : Nat) : numsL c (k + 1) = if c k = true then numsL c k ++ [(k : Int)] else numsL c k := by
  unfold numsL
  rw [List.range_succ, List.filter_append]
  by_cases h : c k = true
  · rw [if_pos h]; simp [h]
  · rw [if_neg h]; simp [h]
theorem numsL_congr {c d : Nat → Bool} {k : Nat} (h : ∀ i, i < k → c i = d i) : numsL c k = numsL d k := by
  unfold numsL
  rw [List.filter_congr (fun i hi => h i (List.mem_range.1 hi))]
theorem numsL_len (c : Nat → Bool) (k : Nat) : (numsL c k).length ≤ k := by
  unfold numsL
  rw [List.length_map]
  exact Nat.le_trans (List.length_filter_le _ _) (by rw [List.length_range]; omega)
/-- Whether a word would be at b at another minute without the link i. -/
def OtherAt (st : Nat) (ls : List Lk) (a : Nat) (t : Int) (b : Nat) (y : Int) (i : Nat) (c : Bool) : Prop := ∃ at' by', Inv st (lessL ls i) a t at' by' ∧ Shut (lessL ls i) at' ∧ c = decide (at0 at' b ≠ y)
/-- What Needed returns. -/
def NeedOut (st : Int) (ls : List Lk) (a b t : Int) (w : World) (e : Ending) (w' : World) : Prop :=
  ∃ (v : Value) (q : Int), e = .returned (.tuple #[v, .int .i64 q]) ∧ Below w.heap.size w w' ∧ (wayE st ls a b t ≠ 0 → v = .slice none 0 0 ∧ q = wayE st ls a b t) ∧
    (wayE st ls a b t = 0 → ∃ at' by', Inv st.toNat ls a.toNat t at' by' ∧ Shut ls at' ∧ ((at0 at' b.toNat < 0 ∧ v = .slice none 0 0 ∧ q = 5) ∨ (0 ≤ at0 at' b.toNat ∧ q = 0 ∧
      ∃ c, (∀ i, i < ls.length → OtherAt st.toNat ls a.toNat t b.toNat (at0 at' b.toNat) i (c i)) ∧ INRow w' v (numsL c ls.length))))
theorem cell_one' (w : World) (x : Value) (t : TypeId) (j : Nat) (u : Value) (h : [x][j]? = some u) : (w.alloc (.cells #[x] t)).cell? ((⟨w.heap.size, 0, none⟩ : Addr).add j) = some u := by
  rw [addr_add, Nat.zero_add, World.cell?_alloc_new]
  simpa using h
theorem row_below {w w' : World} {base : Nat} {e : TypeId} {size : Nat} {v : Value} {n : Nat} {xs : List Value} (h : w.ownsRow base e size v n xs) (hb : Below w.heap.size w w') : w'.ownsRow base e size v n xs :=
  World.ownsRow.kept h (row := none) ⟨hb.os, hb.tape, hb.output, hb.size, fun k hk _ => hb.block k hk⟩ (by
    cases hv : v.ownBlock with
    | none => exact .inl rfl
    | some x => exact .inr (by simp))
theorem INRow.of_own {w : World} {base : Nat} {v : Value} {l : List Int} (h : w.ownsRow base 3 1 v l.length (l.map (Value.int .i64 ·))) : INRow w v l := by
  rcases h.2 with ⟨h0, hn⟩ | ⟨g, cap, cur, hv, hg, hb, hn, hm, hs, ht⟩
  · have : l = [] := List.eq_nil_of_length_eq_zero hn
    subst this; exact .inl ⟨_, _, h0, rfl⟩
  · refine .inr ⟨g, 0, cap, hv, (Array.getElem?_eq_some_iff.1 hb).1, fun k hk => ?_⟩
    have h1 : (l.map (Value.int .i64 ·))[k]? = some (.int .i64 (l.getD k 0)) := by simp [List.getElem?_eq_getElem hk]
    rw [← ht, List.getElem?_take_of_lt (by omega), Array.getElem?_toList] at h1
    rw [Nat.zero_add, cellH hb]; exact h1

set_option maxRecDepth 100000 in
set_option maxHeartbeats 8000000 in
theorem Needed_any (st : Int) (o : Value) (ls : List Lk) (a b t : Int) (w : World) (hv : NRow w o ls) :
    Calls Try.prog 29 #[ntV st o, .int .i64 a, .int .i64 b, .int .i64 t] w fun e w' => NeedOut st ls a b t w e w' := by
  have HC := Lib.hid (fun w' (h : Below w.heap.size w w') => checkWay_any st o ls a b t w' (hv.keep h))
  obtain ⟨oa, oc, rfl, hlc⟩ := hv.row.form
  have HA := Lib.hid (fun W => net_cells w st (.slice oa ls.length oc) (W := W))
  have HB0 := Lib.hid ((Below.refl _ w).alloc (Nat.le_refl w.heap.size) (.cells #[.int .i64 st, .slice oa ls.length oc] 24))
  have HV := Lib.hid hv
  clear hv hlc
  unfold ntV at HC ⊢
  by_cases hE : wayE st ls a b t = 0
  case neg =>
    have HE := Lib.hid hE
    have hz : (wayE st ls a b t != 0) = true := by simpa using hE
    obtain ⟨q, hq⟩ : ∃ q, wayE st ls a b t = q := ⟨_, rfl⟩
    have HQ := Lib.hid hq
    rw [hq] at HC hz
    clear hE hq
    go_enter Try.func29, Try.ntmps29
    go_wp2_with fail
    refine (HC.out _ HB0.out).mono ?_
    rintro e w1 ⟨rfl, hb⟩
    have HB1 := Lib.hid (HB0.out.trans (hb.mono HB0.out.size))
    clear hb
    go_wp2_with fail
    go_ret2
    exact ⟨.slice none 0 0, q, rfl, HB1.out, fun _ => ⟨rfl, HQ.out.symm⟩, fun h => absurd h HE.out⟩
  obtain ⟨hs0, hbs⟩ := wayE_ok hE
  obtain ⟨hne, a0, a1, t0, t1⟩ := startE_ok hs0
  obtain ⟨s1, s10, l40, hks⟩ := netE_ok hne
  unfold stB at hbs
  simp only [Bool.and_eq_true, decide_eq_true_eq] at hbs
  obtain ⟨m, rfl⟩ : ∃ m : Nat, a = m := ⟨a.toNat, by omega⟩
  obtain ⟨g, rfl⟩ : ∃ m : Nat, b = m := ⟨b.toNat, by omega⟩
  obtain ⟨s, rfl⟩ : ∃ s : Nat, st = s := ⟨st.toNat, by omega⟩
  have HS := Lib.hid (fun w' (h : Below w.heap.size w w') => spread_any s oa oc ls m t w' (by omega) (by omega) (by omega) t0 t1 (HV.out.keep h) hks l40)
  have HSL := Lib.hid (fun i (hi : i < ls.length) gg cap w' (h : NRow w' (.slice (some ⟨gg, 0, none⟩) ls.length cap) (lessL ls i)) => by
    have := spread_any s (some ⟨gg, 0, none⟩) cap (lessL ls i) m t w' (by omega) (by omega) (by omega) t0 t1 (by rw [lessL_len]; exact h) (lessL_ok hi hks) (by rw [lessL_len]; exact l40)
    rwa [lessL_len] at this)
  have HWO := Lib.hid (fun i (hi : i < ls.length) w' (h : Below w.heap.size w w') => without_any s (.slice oa ls.length oc) ls i w' (HV.out.keep h) hi l40)
  have HE := Lib.hid hE
  have hgs : g < s := by omega
  have hgi : (g : Int) < s := by omega
  have hg0 : (0 : Int) ≤ g := by omega
  unfold ntV at HWO
  rw [hE] at HC
  clear hE hne hks a0 a1 t0 t1 s1 s10 hbs hs0
  go_enter Try.func29, Try.ntmps29
  go_wp2_with fail
  refine (HC.out _ HB0.out).mono ?_
  rintro e w1 ⟨rfl, hb⟩
  obtain ⟨c0, c1, hlt, hb1⟩ := HA.out w1 hb
  have HB1 := Lib.hid hb1
  clear hb hb1
  go_wp2_with fail
  refine (HS.out _ HB1.out).mono ?_
  rintro e w2 ⟨va, vb, at', by', rfl, h1, h2, h3, h4, hb⟩
  have d0 : w2.cell? ⟨w.heap.size, 0, none⟩ = some (.int .i64 s) := (hb.cell (p := ⟨w.heap.size, 0, none⟩) hlt).trans c0
  have d1 : w2.cell? ⟨w.heap.size, 1, none⟩ = some (.slice oa ls.length oc) := (hb.cell (p := ⟨w.heap.size, 1, none⟩) hlt).trans c1
  have hlt2 : w.heap.size < w2.heap.size := Nat.lt_of_lt_of_le hlt hb.size
  obtain ⟨ga, ca, rfl, hca⟩ := h1.form
  obtain ⟨gb, cb, rfl, hcb⟩ := h2.form
  have hla : at'.length = s := h3.la
  obtain ⟨ba, oa2, rfl, hba, ka⟩ := hca g (by omega)
  have ka' : w2.cell? ⟨ba, oa2 + g, none⟩ = some (.int .i64 (at0 at' g)) := ka
  have H3 := Lib.hid h3; have H4 := Lib.hid h4
  have HB2 := Lib.hid (HB1.out.trans (hb.mono HB1.out.size))
  obtain ⟨y, hy⟩ : ∃ y, at0 at' g = y := ⟨_, rfl⟩
  rw [hy] at ka'
  have HY := Lib.hid hy
  have hgl : (g : Int) < at'.length := by omega
  have hfd := field_ar (some ⟨ba, oa2, none⟩) at'.length ca gb by'.length cb
  clear h1 h2 h3 h4 hb hca hcb ka c0 c1 hy hla
  by_cases hy0 : y < 0
  · have HY0 := Lib.hid hy0
    go_wp2_with fail
    go_ret2
    exact ⟨.slice none 0 0, 5, rfl, HB2.out, fun h => absurd HE.out h, fun _ => ⟨at', by', by simpa using H3.out, H4.out, .inl ⟨by simpa using (by rw [HY.out]; exact HY0.out : at0 at' g < 0), rfl, rfl⟩⟩⟩
  have g1 : decide (y < 0) = false := decide_eq_false hy0
  have HY0 : Hid (0 ≤ at0 at' g) := Lib.hid (by rw [HY.out]; omega)
  obtain ⟨i0, hi0, hz0, hz1, hz2⟩ := info_parts info_i
  have HD0 := Lib.hid d0; have HD1 := Lib.hid d1; have HLT := Lib.hid hlt2
  clear hy0
  go_wp2_with fail
  go_loopw [12, 35] (fun u i wr => ∃ (k : Nat) (out : List Int), k ≤ ls.length ∧ i = .int .i64 k ∧ Hid (wr.ownsRow w2.heap.size 3 1 u out.length (out.map (Value.int .i64 ·))) ∧ Hid (Below w2.heap.size w2 wr) ∧ Hid (∃ c, (∀ i, i < k → OtherAt s ls m t g y i (c i)) ∧ out = numsL c k)) (fun _ i _ => ls.length - (intOf i).toNat)
  case atStart => exact ⟨0, [], Nat.zero_le _, rfl, Lib.hid (World.ownsRow_nil _ _ _ _), Lib.hid (Below.refl _ _), Lib.hid ⟨fun _ => false, fun i hi => by omega, rfl⟩⟩
  case round =>
    obtain ⟨k, out, hk, rfl, hO, hB, hT⟩ := hrel
    clear ka' d0 d1 hfd
    by_cases hkl : k < ls.length
    · have hki : (k : Int) < ls.length := by omega
      have hk0 : (0 : Int) ≤ k := by omega
      have r0 := (hB.out.cell (p := ⟨w.heap.size, 0, none⟩) HLT.out).trans HD0.out
      have r1 := (hB.out.cell (p := ⟨w.heap.size, 1, none⟩) HLT.out).trans HD1.out
      have hol : out.length ≤ 40 := by obtain ⟨c, _, h⟩ := hT.out; have := numsL_len c k; rw [h]; omega
      have HBw := Lib.hid (HB2.out.trans (hB.out.mono HB2.out.size))
      have HW := Lib.hid (HWO.out k hkl wr HBw.out)
      have HSk := Lib.hid (HSL.out k hkl)
      go_wp2_with fail
      refine HW.out.mono ?_
      rintro e w3 ⟨gg, cap, rfl, hN3, hb3⟩
      have HN3 := Lib.hid hN3
      have HB3 := Lib.hid (hB.out.trans (hb3.mono hB.out.size))
      have HO3 := Lib.hid (row_below hO.out hb3)
      clear hN3 hb3
      unfold ntV
      go_wp2_with fail
      refine (HSk.out gg cap w3 HN3.out).mono ?_
      rintro e w4 ⟨va, vb, at2, by2, rfl, h1, h2, h3, h4, hb⟩
      obtain ⟨ga, ca2, rfl, hca⟩ := h1.form
      obtain ⟨gb2, cb2, rfl, _⟩ := h2.form
      have hla2 : at2.length = s := h3.la
      obtain ⟨ba2, oa3, rfl, _, ka2⟩ := hca g (by omega)
      have ka3 : w4.cell? ⟨ba2, oa3 + g, none⟩ = some (.int .i64 (at0 at2 g)) := ka2
      have HB4 := Lib.hid (HB3.out.trans (hb.mono HB3.out.size))
      have hO4 := row_below HO3.out hb
      have hgl2 : (g : Int) < at2.length := by omega
      have hfd := field_ar (some ⟨ba2, oa3, none⟩) at2.length ca2 gb2 by2.length cb2
      obtain ⟨z, hz⟩ : ∃ z, at0 at2 g = z := ⟨_, rfl⟩
      rw [hz] at ka3
      have HT2 : Hid (∃ c, (∀ i, i < k + 1 → OtherAt s ls m t g y i (c i)) ∧ (if z = y then out else out ++ [(k : Int)]) = numsL c (k + 1)) := Lib.hid (by
        obtain ⟨c, hc, ho⟩ := hT.out
        refine ⟨fun i => if i = k then decide (z ≠ y) else c i, fun i hi => ?_, ?_⟩
        · by_cases e : i = k
          · subst e; simp only [if_true]; exact ⟨at2, by2, h3, h4, by rw [hz]⟩
          · simp only [if_neg e]; exact hc i (by omega)
        · rw [numsL_succ, numsL_congr (d := c) (fun i hi => if_neg (by omega)), ← ho]
          simp only [if_true]
          by_cases e : z = y
          · rw [if_pos e, if_neg (by simp [e])]
          · rw [if_neg e, if_pos (by simp [e])])
      clear h1 h2 h3 h4 hb hca ka2 hz hla2
      by_cases hzy : z = y
      · have g2 : (z != y) = false := by simpa using hzy
        rw [if_pos hzy] at HT2
        have HO4 := Lib.hid hO4
        clear hzy hO4
        go_wp2_with fail
        go_roundw
        case rel => exact ⟨k + 1, out, by omega, by go_num, HO4, HB4, HT2⟩
        case measure => simp [intOf]; omega
      · have g2 : (z != y) = true := by simpa using hzy
        rw [if_neg hzy] at HT2
        have h63 : out.length + 1 ≤ maxLen := by unfold maxLen; omega
        have hby : (out.length + 1) * 8 ≤ 140737488355328 := by omega
        have hbase : w2.heap.size ≤ w4.heap.size := HB4.out.size
        clear hzy
        go_wp2_with (at_builtin; refine wpList_append_own _ rfl _ _ 35 rfl w2.heap.size 3 i0 (.int .i64 0) 1 8 Try.underlying35 hi0 hz0 hz1 hz2 rfl (by decide) _ _ _ rfl (World.ownsRow.alloc hO4 _) ⟨w4.heap.size, 0, none⟩ 1 1 [.int .i64 k] rfl rfl (fun j u h => cell_one' _ _ _ j u h) (by simp [Value.oneCell']) h63 hby (by simp; omega) ?_; intro v' w5 hown' hgrow _)
        have HB5 : Hid (Below w2.heap.size w2 w5) := Lib.hid ((HB4.out.alloc hbase _).grown hgrow (by simp; omega) (fun j e => (World.ownsRow.lt hO4 j e).1))
        have HO5 : Hid (w5.ownsRow w2.heap.size 3 1 v' (out ++ [(k : Int)]).length ((out ++ [(k : Int)]).map (Value.int .i64 ·))) := Lib.hid (by
          rw [List.length_append, List.map_append]; exact hown')
        clear hown' hgrow hO4
        go_roundw
        case rel => exact ⟨k + 1, out ++ [(k : Int)], by omega, by go_num, HO5, HB5, HT2⟩
        case measure => simp [intOf]; omega
    · obtain rfl : k = ls.length := by omega
      have HIN := Lib.hid (INRow.of_own hO.out)
      obtain ⟨c, hc, ho⟩ := hT.out
      rw [ho] at HIN
      have HCc := Lib.hid hc
      have HBF := Lib.hid (HB2.out.trans (hB.out.mono HB2.out.size))
      clear hc ho
      go_wp2_with fail
      go_ret2
      exact ⟨_, 0, rfl, HBF.out, fun h => absurd HE.out h, fun _ => ⟨at', by', by simpa using H3.out, H4.out, .inr ⟨by simpa using HY0.out, rfl, c, by simpa [HY.out] using HCc.out, HIN.out⟩⟩⟩
end Go.Proofs.Ytiboolbndfhomaa
