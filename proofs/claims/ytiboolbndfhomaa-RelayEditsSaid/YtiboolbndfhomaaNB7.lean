/- Way of package relay. -/
import Derived.Test.YtiboolbndfhomaaNB5
import Derived.Test.YtiboolbndfhomaaNB6
import Derived.Handy
set_option linter.unusedVariables false
set_option linter.unusedSimpArgs false
namespace Go.Proofs.Ytiboolbndfhomaa
open Go.RowKit

/-- What Way returns. -/
def WayOut (st : Int) (ls : List Lk) (a b t : Int) (w : World) (e : Ending) (w' : World) : Prop :=
  ∃ (v : Value) (q : Int), e = .returned (.tuple #[v, .int .i64 q]) ∧ Below w.heap.size w w' ∧ (wayE st ls a b t ≠ 0 → v = .slice none 0 0 ∧ q = wayE st ls a b t) ∧
    (wayE st ls a b t = 0 → ∃ at' by', Inv st.toNat ls a.toNat t at' by' ∧ Shut ls at' ∧ ((at0 at' b.toNat < 0 ∧ v = .slice none 0 0 ∧ q = 5) ∨ (0 ≤ at0 at' b.toNat ∧ q = 0 ∧ ∃ l, SpRow w' v l ∧ Trail ls by' a.toNat b.toNat l)))
theorem cell_two' (w : World) (x y : Value) (t : TypeId) (j : Nat) (u : Value) (h : [x, y][j]? = some u) : (w.alloc (.cells #[x, y] t)).cell? ((⟨w.heap.size, 0, none⟩ : Addr).add j) = some u := by
  have e : (⟨w.heap.size, 0, none⟩ : Addr).add j = ⟨w.heap.size, j, none⟩ := by unfold Addr.add; split <;> simp_all
  rw [e, World.cell?_alloc_new]
  simpa using h
theorem hopsL_snoc (l : List Sp) (h : Sp) : hopsL (l ++ [h]) = hopsL l ++ [.int .i64 h.1, .int .i64 h.2] := by simp [hopsL]

set_option maxRecDepth 100000 in
set_option maxHeartbeats 8000000 in
theorem Way_any (st : Int) (o : Value) (ls : List Lk) (a b t : Int) (w : World) (hv : NRow w o ls) :
    Calls Try.prog 23 #[ntV st o, .int .i64 a, .int .i64 b, .int .i64 t] w fun e w' => WayOut st ls a b t w e w' := by
  have HC := Lib.hid (fun w' (h : Below w.heap.size w w') => checkWay_any st o ls a b t w' (hv.keep h))
  obtain ⟨oa, oc, rfl, hlc⟩ := hv.row.form
  have HA := Lib.hid (fun W => net_cells w st (.slice oa ls.length oc) (W := W))
  have HB0 := Lib.hid ((Below.refl _ w).alloc (Nat.le_refl w.heap.size) (.cells #[.int .i64 st, .slice oa ls.length oc] 24))
  have HV := Lib.hid hv
  have HLC := Lib.hid hlc
  clear hv hlc
  unfold ntV at HC ⊢
  by_cases hE : wayE st ls a b t = 0
  case neg =>
    have HE := Lib.hid hE
    have hz : (wayE st ls a b t != 0) = true := by simpa using hE
    obtain ⟨q, hq⟩ : ∃ q, wayE st ls a b t = q := ⟨_, rfl⟩
    have HQ := Lib.hid hq
    rw [hq] at HC hz
    clear hE hq
    go_enter Try.func23, Try.ntmps23
    go_wp2_with fail
    refine (HC.out _ HB0.out).mono ?_
    rintro e w1 ⟨rfl, hb⟩
    have HB1 := Lib.hid (HB0.out.trans (hb.mono HB0.out.size))
    clear hb
    go_wp2_with fail
    go_ret2
    exact ⟨.slice none 0 0, q, rfl, HB1.out, fun _ => ⟨rfl, HQ.out.symm⟩, fun h => absurd h HE.out⟩
  obtain ⟨hs0, hbs⟩ := wayE_ok hE
  obtain ⟨hne, a0, a1, t0, t1⟩ := startE_ok hs0
  obtain ⟨s1, s10, l40, hks⟩ := netE_ok hne
  unfold stB at hbs
  simp only [Bool.and_eq_true, decide_eq_true_eq] at hbs
  obtain ⟨m, rfl⟩ : ∃ m : Nat, a = m := ⟨a.toNat, by omega⟩
  obtain ⟨g, rfl⟩ : ∃ m : Nat, b = m := ⟨b.toNat, by omega⟩
  obtain ⟨s, rfl⟩ : ∃ s : Nat, st = s := ⟨st.toNat, by omega⟩
  have HS := Lib.hid (fun w' (h : Below w.heap.size w w') => spread_any s oa oc ls m t w' (by omega) (by omega) (by omega) t0 t1 (HV.out.keep h) hks l40)
  have HE := Lib.hid hE
  have HKS := Lib.hid hks
  have hgs : g < s := by omega
  have hgi : (g : Int) < s := by omega
  have hg0 : (0 : Int) ≤ g := by omega
  rw [hE] at HC
  clear hE hne hks a0 a1 t0 t1 s1 s10 l40 hbs hs0
  go_enter Try.func23, Try.ntmps23
  go_wp2_with fail
  refine (HC.out _ HB0.out).mono ?_
  rintro e w1 ⟨rfl, hb⟩
  obtain ⟨c0, c1, hlt, hb1⟩ := HA.out w1 hb
  have HB1 := Lib.hid hb1
  clear hb hb1
  go_wp2_with fail
  refine (HS.out _ HB1.out).mono ?_
  rintro e w2 ⟨va, vb, at', by', rfl, h1, h2, h3, h4, hb⟩
  have d1 : w2.cell? ⟨w.heap.size, 1, none⟩ = some (.slice oa ls.length oc) := (hb.cell (p := ⟨w.heap.size, 1, none⟩) hlt).trans c1
  have hlt2 : w.heap.size < w2.heap.size := Nat.lt_of_lt_of_le hlt hb.size
  obtain ⟨ga, ca, rfl, hca⟩ := h1.form
  obtain ⟨gb, cb, rfl, hcb⟩ := h2.form
  have hla : at'.length = s := h3.la
  have hlb : by'.length = s := h3.lb
  obtain ⟨ba, oa2, rfl, hba, ka⟩ := hca g (by omega)
  have ka' : w2.cell? ⟨ba, oa2 + g, none⟩ = some (.int .i64 (at0 at' g)) := ka
  have HCB := Lib.hid hcb
  have H3 := Lib.hid h3; have H4 := Lib.hid h4
  have HB2 := Lib.hid (HB1.out.trans (hb.mono HB1.out.size))
  obtain ⟨y, hy⟩ : ∃ y, at0 at' g = y := ⟨_, rfl⟩
  rw [hy] at ka'
  have HY := Lib.hid hy
  have hgl : (g : Int) < at'.length := by omega
  have HLB := Lib.hid hlb
  clear h1 h2 h3 h4 hb hca hcb ka c0 c1 hy hla hlb
  by_cases hy0 : y < 0
  · have HY0 := Lib.hid hy0
    go_wp2_with fail
    go_ret2
    exact ⟨.slice none 0 0, 5, rfl, HB2.out.alloc HB2.out.size _, fun h => absurd HE.out h, fun _ => ⟨at', by', by simpa using H3.out, H4.out, .inl ⟨by simpa using (by rw [HY.out]; exact HY0.out : at0 at' g < 0), rfl, rfl⟩⟩⟩
  have g1 : decide (y < 0) = false := decide_eq_false hy0
  have HY0 : Hid (0 ≤ at0 at' g) := Lib.hid (by rw [HY.out]; omega)
  obtain ⟨i0, hi0, hz0, hz1, hz2⟩ := info_parts info_h
  have hl2 : (w2.alloc (.cells #[.slice (some ⟨ba, oa2, none⟩) at'.length ca, .slice gb by'.length cb] 68)).heap[w2.heap.size]? = some (.cells #[.slice (some ⟨ba, oa2, none⟩) at'.length ca, .slice gb by'.length cb] 68 (0, 0)) := heap_alloc_new _ _
  have hB3 : Below w2.heap.size w2 (w2.alloc (.cells #[.slice (some ⟨ba, oa2, none⟩) at'.length ca, .slice gb by'.length cb] 68)) := (Below.refl _ _).alloc (Nat.le_refl _) _
  obtain ⟨W2, hW2⟩ : ∃ W2, w2.alloc (.cells #[.slice (some ⟨ba, oa2, none⟩) at'.length ca, .slice gb by'.length cb] 68) = W2 := ⟨_, rfl⟩
  rw [hW2] at hl2 hB3
  have HL2 := Lib.hid hl2; have HB3 := Lib.hid hB3
  have HD1 := Lib.hid d1
  have HLT := Lib.hid hlt2
  have HWs := Lib.hid ((Array.getElem?_eq_some_iff.1 hl2).1)
  have HW2 := Lib.hid hW2
  clear hl2 hB3 hW2 hy0
  go_wp2_with fail
  rw [HW2.out]
  go_loopw [12, 13] (fun u v wr => ∃ (q : Nat) (out : List Sp), q < s ∧ v = .int .i64 q ∧ Hid (0 ≤ at0 at' q) ∧ Hid (wr.ownsRow W2.heap.size 73 2 u out.length (hopsL out)) ∧ Hid (Below W2.heap.size W2 wr) ∧ Hid (∀ pre, Trail ls by' m q pre → Trail ls by' m g (pre ++ out.reverse)) ∧ Hid (out.length + (at0 at' q).toNat ≤ 1048576)) (fun _ v _ => (at0 at' (intOf v).toNat).toNat)
  case atStart => exact ⟨g, [], hgs, rfl, HY0, Lib.hid (World.ownsRow_nil _ _ _ _), Lib.hid (Below.refl _ _), Lib.hid (fun pre h => by simpa using h), Lib.hid (by
    have := (H3.out.bd g hgs).2; simp; omega)⟩
  case round =>
    obtain ⟨q, out, hqs, rfl, hq0, hO, hB, hT, hN⟩ := hrel
    clear ka' d1
    by_cases hqm : q = m
    · subst hqm
      have hne : ((q : Int) != q) = false := by simp
      have HBF := Lib.hid (HB2.out.trans ((HB3.out.trans (hB.out.mono HB3.out.size)).mono HB2.out.size))
      have HTr := Lib.hid (hT.out [] .nil)
      rcases hO.out.2 with ⟨h0, hn⟩ | ⟨gg, cap, cur, hv, hg, hbk, hn, hm, hs, ht⟩
      · subst h0
        have hn' : out = [] := List.eq_nil_of_length_eq_zero hn
        subst hn'
        go_wp2_with fail
        refine (reverse_none none 0 wr).mono ?_
        rintro e w5 ⟨rfl, rfl⟩
        go_wp2_with fail
        go_ret2
        exact ⟨.slice none 0 0, 0, rfl, HBF.out, fun h => absurd HE.out h, fun _ => ⟨at', by', by simpa using H3.out, H4.out, .inr ⟨by simpa using HY0.out, rfl, [], SpRow.nil _, by simpa using HTr.out⟩⟩⟩
      · subst hv
        have hFC : FCells cur out.length (fun p => out.getD p (0, 0)) := fun p hp => by
          have h1 := hopsL_at out p hp
          rw [← ht, List.getElem?_take_of_lt (by omega), List.getElem?_take_of_lt (by omega), Array.getElem?_toList, Array.getElem?_toList] at h1
          exact h1
        have HR := Lib.hid (reverse_any gg cap out wr cur hbk hFC (by have := hN.out; omega))
        have HG := Lib.hid hg
        clear hbk hn hm hs ht hg hFC
        go_wp2_with fail
        refine HR.out.mono ?_
        rintro e w5 ⟨rfl, ⟨C', hC1, hC2⟩, hb5⟩
        have HSP : Hid (SpRow w5 (.slice (some ⟨gg, 0, none⟩) out.length cap) out.reverse) := Lib.hid (.inr ⟨gg, 0, cap, by rw [List.length_reverse], (Array.getElem?_eq_some_iff.1 hC1).1, fun i hi => by
          rw [List.length_reverse] at hi
          have h := hC2 i hi
          have e : out.reverse.getD i (0, 0) = out.getD (out.length - 1 - i) (0, 0) := by
            rw [List.getD_eq_getElem?_getD, List.getD_eq_getElem?_getD, List.getElem?_reverse hi]
          rw [Nat.zero_add, cellH hC1 (i * 2), cellH hC1 (i * 2 + 1), e]; exact h⟩)
        have HB5 := Lib.hid (HBF.out.trans (hb5 _ (by have h1 := HB2.out.size; have h2 := HB3.out.size; have h3 := HG.out; omega)))
        clear hC1 hC2 hb5
        go_wp2_with fail
        go_ret2
        exact ⟨_, 0, rfl, HB5.out, fun h => absurd HE.out h, fun _ => ⟨at', by', by simpa using H3.out, H4.out, .inr ⟨by simpa using HY0.out, rfl, out.reverse, HSP.out, by simpa using HTr.out⟩⟩⟩
    · have hne : ((q : Int) != m) = true := by simp; omega
      obtain ⟨i, k1, k2, k3, k4, k5, k6⟩ := Trail.step H3.out hqs hqm hq0.out
      obtain ⟨bb, ob, rfl, hbb, e0, e1⟩ := HCB.out q (by rw [HLB.out]; exact hqs)
      have hwr : Below w2.heap.size w2 wr := HB3.out.trans (hB.out.mono HB3.out.size)
      have f0 := (hwr.cell (p := ⟨bb, _, none⟩) hbb).trans e0
      have f1 := (hwr.cell (p := ⟨bb, _, none⟩) hbb).trans e1
      rw [k2] at f0
      obtain ⟨d, hd⟩ : ∃ d, (by'.getD q (0, 0)).2 = d := ⟨_, rfl⟩
      rw [hd] at f1
      have HH : Hid (by'.getD q (0, 0) = ((i : Int), d)) := Lib.hid (Prod.ext k2 hd)
      obtain ⟨bl, ol, rfl, hbl, l0, _⟩ := HLC.out i k1
      have hen := endsB_ok (HKS.out _ (lk_mem k1)).1
      have hfr : (ls.getD i .nil).fr = (frN ls i : Int) := by unfold frN lkA; omega
      have hfs : frN ls i < s := by unfold frN lkA; omega
      rw [hfr] at l0
      have r1 := (hwr.cell (p := ⟨w.heap.size, 1, none⟩) HLT.out).trans HD1.out
      have r2 : wr.cell? ⟨w2.heap.size, 1, none⟩ = some (.slice (some ⟨bb, ob, none⟩) by'.length cb) := (hB.out.cell (p := ⟨w2.heap.size, 1, none⟩) HWs.out).trans (cellH HL2.out 1)
      have hqb : (q : Int) < by'.length := by have := HLB.out; omega
      have hq00 : (0 : Int) ≤ q := by omega
      have hil : (i : Int) < ls.length := by omega
      have hi00 : (0 : Int) ≤ i := by omega
      have h63 : out.length + 1 ≤ maxLen := by have := hN.out; unfold maxLen; omega
      have hby : (out.length + 1) * 16 ≤ 140737488355328 := by have := hN.out; omega
      have K0 : Hid (∀ W, Below w2.heap.size w2 W → W.cell? ⟨bb, ob + q * 2, none⟩ = some (.int .i64 i) ∧ W.cell? ⟨w.heap.size, 1, none⟩ = some (.slice (some ⟨bl, ol, none⟩) ls.length oc) ∧ W.cell? ⟨bl, ol + i * 4, none⟩ = some (.int .i64 (frN ls i))) := Lib.hid (fun W h => by
        refine ⟨(h.cell (p := ⟨bb, _, none⟩) hbb).trans (e0.trans (by rw [k2])), (h.cell (p := ⟨w.heap.size, 1, none⟩) HLT.out).trans HD1.out, ?_⟩
        exact ((HB2.out.trans (h.mono HB2.out.size)).cell (p := ⟨bl, _, none⟩) hbl).trans l0)
      have HT2 : Hid (∀ pre, Trail ls by' m (frN ls i) pre → Trail ls by' m g (pre ++ (out ++ [((i : Int), d)]).reverse)) := Lib.hid (fun pre h => by
        have := hT.out _ (k6 pre h)
        rw [HH.out] at this
        simpa using this)
      have HN2 : Hid ((out ++ [((i : Int), d)]).length + (at0 at' (frN ls i)).toNat ≤ 1048576) := Lib.hid (by
        have := hN.out; simp only [List.length_append, List.length_cons, List.length_nil]; omega)
      have HK4 := Lib.hid k4
      have HK5 := Lib.hid k5
      have HFS := Lib.hid hfs
      have hbase : W2.heap.size ≤ wr.heap.size := hB.out.size
      clear e0 e1 k2 k3 k4 k5 k6 hd hbb hbl l0 hen hfr hfs hwr
      go_wp2_with (at_builtin; refine wpList_append_own _ rfl _ _ 43 rfl W2.heap.size 73 i0 (.agg #[.int .i64 0, .int .i64 0]) 2 16 Try.underlying43 hi0 hz0 hz1 hz2 rfl (by decide) _ _ _ rfl (hO.out.alloc _) ⟨wr.heap.size, 0, none⟩ 1 1 [.int .i64 i, .int .i64 d] rfl rfl (fun j u h => cell_two' _ _ _ _ j u h) (by simp [Value.oneCell']) h63 hby (by simp; omega) ?_; intro v' w3 hown' hgrow _)
      have hB3 : Below W2.heap.size W2 w3 := (hB.out.alloc hbase _).grown hgrow (by simp; omega) (fun j e => (hO.out.lt j e).1)
      have hw3 := HB3.out.trans (hB3.mono HB3.out.size)
      obtain ⟨p0, p1, p2⟩ := K0.out w3 hw3
      have p3 : w3.cell? ⟨w2.heap.size, 1, none⟩ = some (.slice (some ⟨bb, ob, none⟩) by'.length cb) := (hB3.cell (p := ⟨w2.heap.size, 1, none⟩) HWs.out).trans (cellH HL2.out 1)
      have HO3 : Hid (w3.ownsRow W2.heap.size 73 2 v' (out ++ [((i : Int), d)]).length (hopsL (out ++ [((i : Int), d)]))) := Lib.hid (by
        rw [List.length_append, hopsL_snoc]; exact hown')
      have HB3' := Lib.hid hB3
      clear hown' hgrow hB3 hw3 K0
      go_quiet (fail)
      go_wp2_with fail
      go_roundw
      case rel => exact ⟨frN ls i, out ++ [((i : Int), d)], HFS.out, rfl, HK4, Lib.hid HO3.out, Lib.hid (below_drewN HB3'.out _), HT2, HN2⟩
      case measure =>
        have := HK5.out
        have := HK4.out
        simp [intOf]; omega
end Go.Proofs.Ytiboolbndfhomaa
