/- Closed of the reference. -/
import Derived.Test.YtiboolbndfhomaaNG2
import Derived.Test.YtiboolbndfhomaaNC4
set_option linter.unusedVariables false
set_option linter.unusedSimpArgs false
namespace Go.Proofs.Ytiboolbndfhomaa
open Go.RowKit

theorem rclosed_results {tmps : Array Value} {w : World} {R : Nat} {u v : Value} {q : Int} (h4 : tmps.getD 4 undef = .pointer (some ⟨R, 0, none⟩)) (h5 : tmps.getD 5 undef = .int .i64 q) (hg : w.heap[R]? = some (.cells #[u, v] 24 (0, 0))) : (results Try.f32 tmps).run Try.prog w = .ok (.tuple #[.agg #[u, v], .int .i64 q]) w := by
  have h4' : tmps[4]?.getD undef = .pointer (some ⟨R, 0, none⟩) := by simpa using h4
  have h5' : tmps[5]?.getD undef = .int .i64 q := by simpa using h5
  have q0 := cellH hg 0
  have q1 := cellH hg 1
  simp at q0 q1
  simp [results, Try.results32, asAddr, h4', h5', q0, q1, go_sem]
theorem tNeLS : (27 : TypeId) ≠ 52 := by decide
theorem ClS.low {w W w1 : World} {X : Nat} {st : Int} {c : Sp} {u v' : Value} {xs : List Value} {ks : List Lk} {tmp : Obj} (h : ClS w W X st c u xs ks) (hgrow : (W.alloc tmp).grownBy w1 u.ownBlock) {b : Nat} (hb : b < X) : (w1.setCell ⟨X, 1, none⟩ v').heap[b]? = W.heap[b]? := by
  obtain ⟨l1, l2⟩ := h.far
  rw [heap_other _ _ _ _ _ (by omega), hgrow.block b (by simp; omega) (fun e => by have := (World.ownsRow.lt h.row b e.symm).1; omega)]
  exact Below.heap_alloc _ _ _ (by omega)

theorem cell_four3 (w : World) (g o : Nat) (v a b c d : Value) (t : TypeId) (j : Nat) (u : Value) (h : [a, b, c, d][j]? = some u) : ((w.setCell ⟨g, o, none⟩ v).alloc (.cells #[a, b, c, d] t)).cell? ((⟨w.heap.size, 0, none⟩ : Addr).add j) = some u := by
  have h1 := cell_four (w.setCell ⟨g, o, none⟩ v) a b c d t j u h
  rwa [size_set] at h1
theorem cell_two2 (w : World) (A : Obj) (x y : Value) (t : TypeId) (j : Nat) (u : Value) (h : [x, y][j]? = some u) : ((w.alloc A).alloc (.cells #[x, y] t)).cell? ((⟨w.heap.size + 1, 0, none⟩ : Addr).add j) = some u := by
  have h1 := cell_two' (w.alloc A) x y t j u h
  rwa [show (w.alloc A).heap.size = w.heap.size + 1 by simp] at h1
theorem round_cells {wr w5 : World} {base : Nat} {e : TypeId} {size : Nat} {v : Value} {n : Nat} {xs : List Value} {box tmp : Obj} (hO : wr.ownsRow base e size v n xs) (hg : ((wr.alloc box).alloc tmp).grownBy w5 v.ownBlock) : (∀ o, w5.cell? ⟨wr.heap.size, o, none⟩ = (wr.alloc box).cell? ⟨wr.heap.size, o, none⟩) ∧ ∀ b o, b < base → b < wr.heap.size → w5.cell? ⟨b, o, none⟩ = wr.cell? ⟨b, o, none⟩ := by
  constructor
  · intro o
    refine World.cell?_of_block ?_
    rw [hg.block wr.heap.size (by simp; omega) (fun e => by have := (World.ownsRow.lt hO _ e.symm).2; omega)]
    exact Below.heap_alloc _ _ _ (by simp)
  · intro b o h1 h2
    refine World.cell?_of_block ?_
    rw [hg.block b (by simp; omega) (fun e => by have := (World.ownsRow.lt hO _ e.symm).1; omega), Below.heap_alloc _ _ _ (by simp; omega)]
    exact Below.heap_alloc _ _ _ h2
theorem partS_lo {c s : Sp} (hc : c.1 ≤ c.2) (hs : s.1 ≤ s.2) (h : s.2 < c.1) : partS c s = [s] := by
  unfold partS
  rw [if_pos (by omega), if_neg (by omega), show min s.2 (c.1 - 1) = s.2 by omega]; rfl
theorem partS_hi {c s : Sp} (hc : c.1 ≤ c.2) (hs : s.1 ≤ s.2) (h : c.2 < s.1) : partS c s = [s] := by
  unfold partS
  rw [if_neg (by omega), if_pos (by omega), show max s.1 (c.2 + 1) = s.1 by omega]; rfl
theorem partS_mid {c s : Sp} (h : ¬ s.2 < c.1) (h' : ¬ c.2 < s.1) : partS c s = (if s.1 < c.1 then [(s.1, c.1 - 1)] else []) ++ (if c.2 < s.2 then [(c.2 + 1, s.2)] else []) := by
  unfold partS
  rw [show min s.2 (c.1 - 1) = c.1 - 1 by omega, show max s.1 (c.2 + 1) = c.2 + 1 by omega]

set_option maxRecDepth 100000 in
set_option maxHeartbeats 8000000 in
theorem rClosed_any (st : Int) (o : Value) (ls : List Lk) (c1 c2 : Int) (w : World) (hv : NRow w o ls) (hst : -9223372036854775808 ≤ st ∧ st ≤ 9223372036854775807) (hc : -9223372036854775808 ≤ c1 ∧ c2 ≤ 9223372036854775807) :
    Calls Try.prog 32 #[ntV st o, .agg #[.int .i64 c1, .int .i64 c2]] w fun e w' => ClosedOut st ls (c1, c2) w e w' := by
  obtain ⟨oa, oc, rfl, hlc⟩ := hv.row.form
  have HC := Lib.hid (fun w' (h : Below w.heap.size w w') => rCheck_any st (.slice oa ls.length oc) ls w' (hv.keep h) hst)
  have HLC := Lib.hid hlc
  have HOP := Lib.hid hv.op
  have HA := Lib.hid (fun W' => three_cells w #[.int .i64 st, .slice oa ls.length oc] #[.int .i64 c1, .int .i64 c2] #[.int .i64 0, .slice none 0 0] 24 52 24 (W := W'))
  have HB0 := Lib.hid ((((Below.refl _ w).alloc (Nat.le_refl w.heap.size) (.cells #[.int .i64 st, .slice oa ls.length oc] 24)).alloc (by simp) (.cells #[.int .i64 c1, .int .i64 c2] 52)).alloc (by simp; omega) (.cells #[.int .i64 0, .slice none 0 0] 24))
  unfold ntV at HC ⊢
  obtain ⟨W2, hW2⟩ : ∃ W2, ((w.alloc (.cells #[.int .i64 st, .slice oa ls.length oc] 24)).alloc (.cells #[.int .i64 c1, .int .i64 c2] 52)).alloc (.cells #[.int .i64 0, .slice none 0 0] 24) = W2 := ⟨_, rfl⟩
  rw [hW2] at HA HB0
  have HW2 := Lib.hid hW2
  have ead : w.heap.size + 1 + 1 = w.heap.size + 2 := rfl
  clear hv hlc hW2
  by_cases hE : netE st ls = 0
  case neg =>
    have HV : Hid (closedE st ls (c1, c2) = netE st ls) := Lib.hid (by unfold closedE; rw [if_neg hE])
    have HE := Lib.hid hE
    have hz : (netE st ls != 0) = true := by simpa using hE
    obtain ⟨q, hq⟩ : ∃ q, netE st ls = q := ⟨_, rfl⟩
    have HQ := Lib.hid hq
    rw [hq] at HC hz
    clear hE hq
    go_enter Try.func32, Try.ntmps32
    go_wp2_with fail
    rw [HW2.out]
    refine (HC.out _ HB0.out).mono ?_
    rintro e w1 ⟨rfl, hb⟩
    obtain ⟨n0, n1, n2, hlt, hw1⟩ := HA.out w1 hb
    have r0 := cellH n2 0
    have r1 := cellH n2 1
    have f0 := freeH n2 0
    have f1 := freeH n2 1
    simp at r0 r1
    have HR : Hid (((w1.setCell ⟨w.heap.size + 2, 0, none⟩ (.int .i64 0)).setCell ⟨w.heap.size + 2, 1, none⟩ (.slice none 0 0)).heap[w.heap.size + 2]? = some (.cells #[.int .i64 0, .slice none 0 0] 24 (0, 0))) := Lib.hid (set_pair5 n2)
    have HB1 := Lib.hid ((hw1.setCell (p := ⟨w.heap.size + 2, 0, none⟩) (by simp) (.int .i64 0)).setCell (p := ⟨w.heap.size + 2, 1, none⟩) (by simp) (.slice none 0 0))
    clear hb hw1 n0 n1 n2
    go_wp2_with fail
    refine bodyPost_ret (rclosed_results rfl rfl HR.out) rfl ?_
    exact ⟨0, _, by rw [HV.out, HQ.out], HB1.out, fun _ => ⟨rfl, rfl⟩, fun h => absurd (HV.out.symm.trans h) HE.out⟩
  obtain ⟨s1, s10, l40, hks⟩ := netE_ok hE
  by_cases h12 : c2 < c1
  · have HV : Hid (closedE st ls (c1, c2) = 1) := Lib.hid (by unfold closedE; rw [if_pos hE, if_pos h12])
    rw [hE] at HC
    clear hE hks
    go_enter Try.func32, Try.ntmps32
    go_wp2_with fail
    rw [HW2.out]
    refine (HC.out _ HB0.out).mono ?_
    rintro e w1 ⟨rfl, hb⟩
    obtain ⟨n0, n1, n2, hlt, hw1⟩ := HA.out w1 hb
    have r0 := cellH n2 0
    have r1 := cellH n2 1
    have f0 := freeH n2 0
    have f1 := freeH n2 1
    have t0 := cellH n1 0
    have t1 := cellH n1 1
    simp at r0 r1 t0 t1
    have HR : Hid (((w1.setCell ⟨w.heap.size + 2, 0, none⟩ (.int .i64 0)).setCell ⟨w.heap.size + 2, 1, none⟩ (.slice none 0 0)).heap[w.heap.size + 2]? = some (.cells #[.int .i64 0, .slice none 0 0] 24 (0, 0))) := Lib.hid (set_pair5 n2)
    have HB1 := Lib.hid ((hw1.setCell (p := ⟨w.heap.size + 2, 0, none⟩) (by simp) (.int .i64 0)).setCell (p := ⟨w.heap.size + 2, 1, none⟩) (by simp) (.slice none 0 0))
    clear hb hw1 n0 n1 n2
    go_wp2_with fail
    refine bodyPost_ret (rclosed_results rfl rfl HR.out) rfl ?_
    exact ⟨0, _, by rw [HV.out], HB1.out, fun _ => ⟨rfl, rfl⟩, fun h => absurd (HV.out.symm.trans h) (by decide)⟩
  have g12 : decide (c2 < c1) = false := decide_eq_false h12
  have hcc : c1 ≤ c2 := by omega
  have HKLO := Lib.hid (fun k (hk : k ∈ ls) => okS_bd k.op (-1) (linkE_ok (hks k hk).2).2.2.2)
  have HV : Hid (closedE st ls (c1, c2) = if ls.any (wideB (c1, c2)) = true then 2 else 0) := Lib.hid (by unfold closedE; rw [if_pos hE, if_neg h12])
  have HKS := Lib.hid hks
  have HCB := Lib.hid hc
  have hll : (ls.length : Int) ≤ 40 := by omega
  rw [hE] at HC
  clear hE hks h12 hc l40
  go_enter Try.func32, Try.ntmps32
  go_wp2_with fail
  rw [HW2.out]
  refine (HC.out _ HB0.out).mono ?_
  rintro e w1 ⟨rfl, hb⟩
  obtain ⟨n0, n1, n2, hlt, hw1⟩ := HA.out w1 hb
  have HS0 : Hid (ClS w (w1.alloc (.cells #[.int .i64 st, .slice none 0 0] 24)) w1.heap.size st (c1, c2) (.slice none 0 0) [] (closeL (ls.take 0) (c1, c2))) := Lib.hid
    ⟨hw1.alloc hw1.size _, (gNe _ _ _ (by omega)).trans n1, (gNe _ _ _ (by omega)).trans n2, ⟨hlt, by simp⟩, heap_alloc_new _ _, World.ownsRow_nil _ _ _ _, fun i hi => by simp [closeL] at hi⟩
  have HN0 : Hid ((w1.alloc (.cells #[.int .i64 st, .slice none 0 0] 24)).heap[w.heap.size]? = some (.cells #[.int .i64 st, .slice oa ls.length oc] 24 (0, 0))) := Lib.hid ((gNe _ _ _ (by omega)).trans n0)
  have q0 := cellH n0 0
  have q1 := cellH n0 1
  have t0 := cellH n1 0
  have t1 := cellH n1 1
  simp at q0 q1 t0 t1
  have hlt0 : w.heap.size < w1.heap.size := by omega
  have hne0 : w.heap.size ≠ w1.heap.size := by omega
  clear hb hw1 n0 n1 n2
  go_wp2_with fail
  obtain ⟨X, hX⟩ : ∃ X, w1.heap.size = X := ⟨_, rfl⟩
  rw [hX] at HS0
  rw [hX]
  clear hX
  go_loopw [8] (fun i V => ∃ (k : Nat) (u : Value) (xs : List Value), k ≤ ls.length ∧ i = .int .i64 k ∧ Hid (ClS w V X st (c1, c2) u xs (closeL (ls.take k) (c1, c2))) ∧ Hid (V.heap[w.heap.size]? = some (.cells #[.int .i64 st, .slice oa ls.length oc] 24 (0, 0))) ∧ Hid (ls.any (wideB (c1, c2)) = (ls.drop k).any (wideB (c1, c2)))) (fun i _ => ls.length - (intOf i).toNat)
  case atStart => exact ⟨0, _, [], Nat.zero_le _, rfl, HS0, HN0, Lib.hid rfl⟩
  case round =>
    clear HS0 HN0 q0 q1 t0 t1 hlt hlt0 hne0
    obtain ⟨k, u, xs, hk, rfl, hSt, hNb, hP⟩ := hrel
    obtain ⟨V, rfl⟩ : ∃ V, V = wr := ⟨_, rfl⟩
    have q0 := cellH hNb.out 0
    have q1 := cellH hNb.out 1
    simp at q0 q1
    by_cases hkl : k < ls.length
    · have HKL := Lib.hid hkl
      obtain ⟨b, off, rfl, hb, d0, d1, d2, ov, d3, hsp⟩ := HLC.out k hkl
      have hki : (k : Int) < ls.length := by omega
      have hk0 : (0 : Int) ≤ k := by omega
      have hBw := hSt.out.below
      have e0 := (hBw.cell (p := ⟨b, _, none⟩) hb).trans d0
      have e1 := (hBw.cell (p := ⟨b, _, none⟩) hb).trans d1
      have e2 := (hBw.cell (p := ⟨b, _, none⟩) hb).trans d2
      have e3 := (hBw.cell (p := ⟨b, _, none⟩) hb).trans d3
      obtain ⟨_, _, hl12, _⟩ := linkE_ok (HKS.out _ (lk_mem hkl)).2
      have hsp1 := hsp.keep hBw
      have HAny : Hid ((ls.drop k).any (wideB (c1, c2)) = (wideB (c1, c2) (ls.getD k .nil) || (ls.drop (k + 1)).any (wideB (c1, c2)))) := Lib.hid (by rw [ldrop_at hkl]; rfl)
      have HTk : Hid (closeL (ls.take (k + 1)) (c1, c2) = closeL (ls.take k) (c1, c2) ++ [closeK (c1, c2) (ls.getD k .nil)]) := Lib.hid (by
        unfold closeL
        rw [List.take_succ_eq_append_getElem hkl, List.map_append, List.getD_eq_getElem?_getD, List.getElem?_eq_getElem hkl]; rfl)
      have hbd := HKLO.out _ (lk_mem hkl)
      obtain ⟨x, hx⟩ : ∃ x, ls.getD k .nil = x := ⟨_, rfl⟩
      rw [hx] at e0 e1 e2 hl12 hsp1 HAny HTk hbd
      obtain ⟨pa, pc, rfl, hpa⟩ := hsp1.form
      have HPA := Lib.hid hpa
      have HBD := Lib.hid hbd
      obtain ⟨W3, hW3⟩ : ∃ W3, V.alloc (.cells #[.int .i64 x.fr, .int .i64 x.to, .int .i64 x.dl, .slice pa x.op.length pc] 27) = W3 := ⟨_, rfl⟩
      have HS3 : Hid (W3.heap.size = V.heap.size + 1) := Lib.hid (by rw [← hW3]; simp)
      have HL3 : Hid (∀ W', Below W3.heap.size W3 W' → W'.heap[V.heap.size]? = some (.cells #[.int .i64 x.fr, .int .i64 x.to, .int .i64 x.dl, .slice pa x.op.length pc] 27 (0, 0)) ∧ Below V.heap.size V W') := Lib.hid (fun W' h => by
        rw [← hW3] at h
        refine ⟨(h.block _ (by simp)).trans (heap_alloc_new _ _), ?_⟩
        exact ((Below.refl V.heap.size V).alloc (Nat.le_refl _) _).trans (h.mono (by simp)))
      have HW3 := Lib.hid hW3
      clear d0 d1 d2 d3 hsp hsp1 hBw hx hpa hbd hW3
      go_wp2_with fail
      rw [HW3.out]
      go_loopw [10, 11] (fun v i wr => ∃ (q : Nat), q ≤ x.op.length ∧ i = .int .i64 q ∧ Hid (wr.ownsRow W3.heap.size 52 2 v (partsL (x.op.take q) (c1, c2)).length (hopsL (partsL (x.op.take q) (c1, c2)))) ∧ Hid (Below W3.heap.size W3 wr)) (fun _ i _ => x.op.length - (intOf i).toNat)
      case atStart => exact ⟨0, Nat.zero_le _, rfl, Lib.hid (by
        have h := World.ownsRow_nil W3 W3.heap.size 52 2
        simpa [partsL, hopsL] using h), Lib.hid (Below.refl _ _)⟩
      case round =>
        obtain ⟨q, hq, rfl, hO, hB⟩ := hrel
        clear q0 q1 e0 e1 e2 e3
        obtain ⟨z, hz2⟩ := HL3.out wr hB.out
        have z3 := cellH z 3
        simp at z3
        have HZ := Lib.hid z
        have hsb' := (hSt.out.keep hz2).sb
        have t0 := cellH hsb' 0
        have t1 := cellH hsb' 1
        simp at t0 t1
        have HVB := Lib.hid hz2
        clear z hz2 hsb'
        by_cases hql : q < x.op.length
        · skip
          have hqi : (q : Int) < x.op.length := by omega
          have hq0 : (0 : Int) ≤ q := by omega
          obtain ⟨sb, so, rfl, hsb, g0, g1⟩ := HPA.out q hql
          have g0' := (HVB.out.cell (p := ⟨sb, _, none⟩) hsb).trans g0
          have g1' := (HVB.out.cell (p := ⟨sb, _, none⟩) hsb).trans g1
          have hstep := partsL_take x.op (c1, c2) hql
          have hyb := HBD.out (x.op.getD q (0, 0)) (by rw [List.getD_eq_getElem?_getD, List.getElem?_eq_getElem hql]; exact List.getElem_mem hql)
          obtain ⟨y, hy⟩ : ∃ y, x.op.getD q (0, 0) = y := ⟨_, rfl⟩
          rw [hy] at g0' g1' hstep hyb
          obtain ⟨r, hr⟩ : ∃ r, partsL (x.op.take q) (c1, c2) = r := ⟨_, rfl⟩
          rw [hr] at hstep hO
          have hrl : r.length ≤ 24 := by
            have h := partsL_len (c1, c2) (x.op.take q)
            rw [hr, List.length_take] at h
            omega
          have hfx := hSt.out.far
          have hvs := HVB.out.size
          have hs1 : w.heap.size + 1 < wr.heap.size := by omega
          have hs1' : w.heap.size + 1 ≠ wr.heap.size := by omega
          have HST := Lib.hid hstep
          clear g0 g1 hy hr hstep
          obtain ⟨i0, hi0, hz0, hz1, hz2⟩ := info_parts info_s
          obtain ⟨hy0, hy1, hy2⟩ := hyb
          have hws := hB.out.size
          have hs3 := HS3.out
          have hcb := HCB.out
          have hOO := World.ownsRow.alloc hO.out (.cells #[.int .i64 y.1, .int .i64 y.2] 52)
          have HFin : Hid (∀ (d : List Sp), partS (c1, c2) y = d → ∀ (W' : World) (v' : Value), W'.ownsRow W3.heap.size 52 2 v' (r ++ d).length (hopsL (r ++ d)) → W'.ownsRow W3.heap.size 52 2 v' (partsL (x.op.take (q + 1)) (c1, c2)).length (hopsL (partsL (x.op.take (q + 1)) (c1, c2)))) := Lib.hid (fun d hd W' v' h => by rw [HST.out, hd]; exact h)
          have HB4 : Hid (Below W3.heap.size W3 (wr.alloc (.cells #[.int .i64 y.1, .int .i64 y.2] 52))) := Lib.hid (hB.out.alloc hB.out.size _)
          have HT0 := Lib.hid t0
          have HT1 := Lib.hid t1
          by_cases a1 : y.2 < c1
          · have p1 : decide (y.2 < c1) = true := decide_eq_true a1
            have hd : partS (c1, c2) y = [y] := partS_lo hcc hy1 a1
            have HD := Lib.hid hd
            clear hd a1
            go_wp2_with (at_builtin; refine wpList_append_own _ rfl _ _ 25 rfl W3.heap.size 52 i0 (.agg #[.int .i64 0, .int .i64 0]) 2 16 Try.underlying25 hi0 hz0 hz1 hz2 rfl (by decide) _ _ _ rfl (World.ownsRow.alloc hOO _) ⟨wr.heap.size + 1, 0, none⟩ 1 1 [.int .i64 (y.1), .int .i64 (y.2)] rfl rfl (fun j u h => cell_two2 _ _ _ _ _ j u h) (by simp [Value.oneCell']) (by unfold maxLen; omega) (by omega) (by simp; omega) ?_; intro v5 w5 hown5 hgrow5 _; have kk := round_cells hO.out hgrow5; have k0 : w5.cell? ⟨wr.heap.size, 0, none⟩ = some (.int .i64 y.1) := (kk.1 0).trans (by rw [World.cell?_alloc_new]; rfl); have k1 : w5.cell? ⟨wr.heap.size, 1, none⟩ = some (.int .i64 y.2) := (kk.1 1).trans (by rw [World.cell?_alloc_new]; rfl); have k2 := (kk.2 (w.heap.size + 1) 0 (by omega) (by omega)).trans HT0.out; have k3 := (kk.2 (w.heap.size + 1) 1 (by omega) (by omega)).trans HT1.out; clear kk)
            have HB5 : Below W3.heap.size W3 w5 := (HB4.out.alloc (by simp; omega) _).grown hgrow5 (by simp; omega) (fun j e => (World.ownsRow.lt hOO j e).1)
            have HO5 : Hid (w5.ownsRow W3.heap.size 52 2 v5 (partsL (x.op.take (q + 1)) (c1, c2)).length (hopsL (partsL (x.op.take (q + 1)) (c1, c2)))) := Lib.hid (HFin.out _ HD.out _ _ (by
              rw [List.length_append, hopsL_snoc]; exact hown5))
            have HB5' := Lib.hid HB5
            clear hown5 hgrow5 HB5
            go_roundw
            case rel => exact ⟨q + 1, by omega, by go_num, HO5, HB5'⟩
            case measure => simp [intOf]; omega
          · have p1 : decide (y.2 < c1) = false := decide_eq_false a1
            by_cases a2 : c2 < y.1
            · have p2 : decide (c2 < y.1) = true := decide_eq_true a2
              have hd : partS (c1, c2) y = [y] := partS_hi hcc hy1 a2
              have HD := Lib.hid hd
              clear hd a1 a2
              go_wp2_with (at_builtin; refine wpList_append_own _ rfl _ _ 25 rfl W3.heap.size 52 i0 (.agg #[.int .i64 0, .int .i64 0]) 2 16 Try.underlying25 hi0 hz0 hz1 hz2 rfl (by decide) _ _ _ rfl (World.ownsRow.alloc hOO _) ⟨wr.heap.size + 1, 0, none⟩ 1 1 [.int .i64 (y.1), .int .i64 (y.2)] rfl rfl (fun j u h => cell_two2 _ _ _ _ _ j u h) (by simp [Value.oneCell']) (by unfold maxLen; omega) (by omega) (by simp; omega) ?_; intro v5 w5 hown5 hgrow5 _; have kk := round_cells hO.out hgrow5; have k0 : w5.cell? ⟨wr.heap.size, 0, none⟩ = some (.int .i64 y.1) := (kk.1 0).trans (by rw [World.cell?_alloc_new]; rfl); have k1 : w5.cell? ⟨wr.heap.size, 1, none⟩ = some (.int .i64 y.2) := (kk.1 1).trans (by rw [World.cell?_alloc_new]; rfl); have k2 := (kk.2 (w.heap.size + 1) 0 (by omega) (by omega)).trans HT0.out; have k3 := (kk.2 (w.heap.size + 1) 1 (by omega) (by omega)).trans HT1.out; clear kk)
              have HB5 : Below W3.heap.size W3 w5 := (HB4.out.alloc (by simp; omega) _).grown hgrow5 (by simp; omega) (fun j e => (World.ownsRow.lt hOO j e).1)
              have HO5 : Hid (w5.ownsRow W3.heap.size 52 2 v5 (partsL (x.op.take (q + 1)) (c1, c2)).length (hopsL (partsL (x.op.take (q + 1)) (c1, c2)))) := Lib.hid (HFin.out _ HD.out _ _ (by
                rw [List.length_append, hopsL_snoc]; exact hown5))
              have HB5' := Lib.hid HB5
              clear hown5 hgrow5 HB5
              go_roundw
              case rel => exact ⟨q + 1, by omega, by go_num, HO5, HB5'⟩
              case measure => simp [intOf]; omega
            · have p2 : decide (c2 < y.1) = false := decide_eq_false a2
              by_cases a3 : y.1 < c1
              · have p3 : decide (y.1 < c1) = true := decide_eq_true a3
                have hws1 : IntKind.i64.wrap (c1 - 1) = c1 - 1 := IntWalk.i64_in _ (by omega)
                by_cases a4 : c2 < y.2
                · have p4 : decide (c2 < y.2) = true := decide_eq_true a4
                  have hws2 : IntKind.i64.wrap (c2 + 1) = c2 + 1 := IntWalk.i64_in _ (by omega)
                  have hd : partS (c1, c2) y = [(y.1, c1 - 1)] ++ [(c2 + 1, y.2)] := (partS_mid a1 a2).trans (by simp only [if_pos a3, if_pos a4])
                  have HD := Lib.hid hd
                  clear hd a1 a2 a3 a4
                  go_wp2_with (first | ((at_builtin; refine wpList_append_own _ rfl _ _ 25 rfl W3.heap.size 52 i0 (.agg #[.int .i64 0, .int .i64 0]) 2 16 Try.underlying25 hi0 hz0 hz1 hz2 rfl (by decide) _ _ _ rfl (World.ownsRow.alloc hOO _) ⟨wr.heap.size + 1, 0, none⟩ 1 1 [.int .i64 (y.1), .int .i64 (c1 - 1)] rfl rfl (fun j u h => cell_two2 _ _ _ _ _ j u h) (by simp [Value.oneCell']) (by unfold maxLen; omega) (by omega) (by simp; omega) ?_; intro v5 w5 hown5 hgrow5 _; have kk := round_cells hO.out hgrow5; have k0 : w5.cell? ⟨wr.heap.size, 0, none⟩ = some (.int .i64 y.1) := (kk.1 0).trans (by rw [World.cell?_alloc_new]; rfl); have k1 : w5.cell? ⟨wr.heap.size, 1, none⟩ = some (.int .i64 y.2) := (kk.1 1).trans (by rw [World.cell?_alloc_new]; rfl); have k2 := (kk.2 (w.heap.size + 1) 0 (by omega) (by omega)).trans HT0.out; have k3 := (kk.2 (w.heap.size + 1) 1 (by omega) (by omega)).trans HT1.out; clear kk); have HB5 : Below W3.heap.size W3 w5 := (HB4.out.alloc (by simp; omega) _).grown hgrow5 (by simp; omega) (fun j e => (World.ownsRow.lt hOO j e).1)) | (at_builtin; refine wpList_append_own _ rfl _ _ 25 rfl W3.heap.size 52 i0 (.agg #[.int .i64 0, .int .i64 0]) 2 16 Try.underlying25 hi0 hz0 hz1 hz2 rfl (by decide) _ _ _ rfl (World.ownsRow.alloc hown5 _) ⟨w5.heap.size, 0, none⟩ 1 1 [.int .i64 (c2 + 1), .int .i64 (y.2)] rfl rfl (fun j u h => cell_two' _ _ _ _ j u h) (by simp [Value.oneCell']) (by unfold maxLen; omega) (by omega) (by have := HB5.size; simp; omega) ?_; intro v6 w6 hown6 hgrow6 _))
                  have HO6 : Hid (w6.ownsRow W3.heap.size 52 2 v6 (partsL (x.op.take (q + 1)) (c1, c2)).length (hopsL (partsL (x.op.take (q + 1)) (c1, c2)))) := Lib.hid (HFin.out _ HD.out _ _ (by
                    rw [← List.append_assoc, List.length_append, hopsL_snoc, List.length_append, hopsL_snoc]; exact hown6))
                  have HB6 : Hid (Below W3.heap.size W3 w6) := Lib.hid ((HB5.alloc HB5.size _).grown hgrow6 (by have := HB5.size; simp; omega) (fun j e => (World.ownsRow.lt hown5 j e).1))
                  clear hown5 hgrow5 HB5 hown6 hgrow6
                  go_roundw
                  case rel => exact ⟨q + 1, by omega, by go_num, HO6, HB6⟩
                  case measure => simp [intOf]; omega
                · have p4 : decide (c2 < y.2) = false := decide_eq_false a4
                  have hd : partS (c1, c2) y = [(y.1, c1 - 1)] := (partS_mid a1 a2).trans (by simp only [if_pos a3, if_neg a4]; rfl)
                  have HD := Lib.hid hd
                  clear hd a1 a2 a3 a4
                  go_wp2_with (at_builtin; refine wpList_append_own _ rfl _ _ 25 rfl W3.heap.size 52 i0 (.agg #[.int .i64 0, .int .i64 0]) 2 16 Try.underlying25 hi0 hz0 hz1 hz2 rfl (by decide) _ _ _ rfl (World.ownsRow.alloc hOO _) ⟨wr.heap.size + 1, 0, none⟩ 1 1 [.int .i64 (y.1), .int .i64 (c1 - 1)] rfl rfl (fun j u h => cell_two2 _ _ _ _ _ j u h) (by simp [Value.oneCell']) (by unfold maxLen; omega) (by omega) (by simp; omega) ?_; intro v5 w5 hown5 hgrow5 _; have kk := round_cells hO.out hgrow5; have k0 : w5.cell? ⟨wr.heap.size, 0, none⟩ = some (.int .i64 y.1) := (kk.1 0).trans (by rw [World.cell?_alloc_new]; rfl); have k1 : w5.cell? ⟨wr.heap.size, 1, none⟩ = some (.int .i64 y.2) := (kk.1 1).trans (by rw [World.cell?_alloc_new]; rfl); have k2 := (kk.2 (w.heap.size + 1) 0 (by omega) (by omega)).trans HT0.out; have k3 := (kk.2 (w.heap.size + 1) 1 (by omega) (by omega)).trans HT1.out; clear kk)
                  have HB5 : Below W3.heap.size W3 w5 := (HB4.out.alloc (by simp; omega) _).grown hgrow5 (by simp; omega) (fun j e => (World.ownsRow.lt hOO j e).1)
                  have HO5 : Hid (w5.ownsRow W3.heap.size 52 2 v5 (partsL (x.op.take (q + 1)) (c1, c2)).length (hopsL (partsL (x.op.take (q + 1)) (c1, c2)))) := Lib.hid (HFin.out _ HD.out _ _ (by
                    rw [List.length_append, hopsL_snoc]; exact hown5))
                  have HB5' := Lib.hid HB5
                  clear hown5 hgrow5 HB5
                  go_roundw
                  case rel => exact ⟨q + 1, by omega, by go_num, HO5, HB5'⟩
                  case measure => simp [intOf]; omega
              · have p3 : decide (y.1 < c1) = false := decide_eq_false a3
                by_cases a4 : c2 < y.2
                · have p4 : decide (c2 < y.2) = true := decide_eq_true a4
                  have hws2 : IntKind.i64.wrap (c2 + 1) = c2 + 1 := IntWalk.i64_in _ (by omega)
                  have hd : partS (c1, c2) y = [(c2 + 1, y.2)] := (partS_mid a1 a2).trans (by simp only [if_neg a3, if_pos a4]; rfl)
                  have HD := Lib.hid hd
                  clear hd a1 a2 a3 a4
                  go_wp2_with (at_builtin; refine wpList_append_own _ rfl _ _ 25 rfl W3.heap.size 52 i0 (.agg #[.int .i64 0, .int .i64 0]) 2 16 Try.underlying25 hi0 hz0 hz1 hz2 rfl (by decide) _ _ _ rfl (World.ownsRow.alloc hOO _) ⟨wr.heap.size + 1, 0, none⟩ 1 1 [.int .i64 (c2 + 1), .int .i64 (y.2)] rfl rfl (fun j u h => cell_two2 _ _ _ _ _ j u h) (by simp [Value.oneCell']) (by unfold maxLen; omega) (by omega) (by simp; omega) ?_; intro v5 w5 hown5 hgrow5 _; have kk := round_cells hO.out hgrow5; have k0 : w5.cell? ⟨wr.heap.size, 0, none⟩ = some (.int .i64 y.1) := (kk.1 0).trans (by rw [World.cell?_alloc_new]; rfl); have k1 : w5.cell? ⟨wr.heap.size, 1, none⟩ = some (.int .i64 y.2) := (kk.1 1).trans (by rw [World.cell?_alloc_new]; rfl); have k2 := (kk.2 (w.heap.size + 1) 0 (by omega) (by omega)).trans HT0.out; have k3 := (kk.2 (w.heap.size + 1) 1 (by omega) (by omega)).trans HT1.out; clear kk)
                  have HB5 : Below W3.heap.size W3 w5 := (HB4.out.alloc (by simp; omega) _).grown hgrow5 (by simp; omega) (fun j e => (World.ownsRow.lt hOO j e).1)
                  have HO5 : Hid (w5.ownsRow W3.heap.size 52 2 v5 (partsL (x.op.take (q + 1)) (c1, c2)).length (hopsL (partsL (x.op.take (q + 1)) (c1, c2)))) := Lib.hid (HFin.out _ HD.out _ _ (by
                    rw [List.length_append, hopsL_snoc]; exact hown5))
                  have HB5' := Lib.hid HB5
                  clear hown5 hgrow5 HB5
                  go_roundw
                  case rel => exact ⟨q + 1, by omega, by go_num, HO5, HB5'⟩
                  case measure => simp [intOf]; omega
                · have p4 : decide (c2 < y.2) = false := decide_eq_false a4
                  have hd : partS (c1, c2) y = [] := (partS_mid a1 a2).trans (by simp only [if_neg a3, if_neg a4]; rfl)
                  have HO5 := Lib.hid (HFin.out _ hd _ _ (by rw [List.append_nil]; exact hOO))
                  clear hd a1 a2 a3 a4
                  go_wp2_with fail
                  go_roundw
                  case rel => exact ⟨q + 1, by omega, by go_num, HO5, HB4⟩
                  case measure => simp [intOf]; omega
        · skip
          obtain rfl : x.op.length = q := by omega
          have hO1 := hO.out
          rw [List.take_length] at hO1
          rw [List.take_length] at hO
          obtain ⟨va, vc, rfl⟩ := row_form hO1
          have hplen := partsL_len (c1, c2) x.op
          have hSk := hSt.out.keep HVB.out
          by_cases h13 : 12 < (partsL x.op (c1, c2)).length
          · have g13 : (12 : Int) < (partsL x.op (c1, c2)).length := by omega
            have HCE : Hid (closedE st ls (c1, c2) = 2) := Lib.hid (by
              rw [HV.out, hP.out, HAny.out]
              unfold wideB
              rw [decide_eq_true h13]; rfl)
            have n2 := hSk.rb
            have r0 := cellH n2 0
            have r1 := cellH n2 1
            have f0 := freeH n2 0
            have f1 := freeH n2 1
            simp at r0 r1
            have HR : Hid (((wr.setCell ⟨w.heap.size + 2, 0, none⟩ (.int .i64 0)).setCell ⟨w.heap.size + 2, 1, none⟩ (.slice none 0 0)).heap[w.heap.size + 2]? = some (.cells #[.int .i64 0, .slice none 0 0] 24 (0, 0))) := Lib.hid (set_pair5 n2)
            have HB1 := Lib.hid ((hSk.below.setCell (p := ⟨w.heap.size + 2, 0, none⟩) (by simp) (.int .i64 0)).setCell (p := ⟨w.heap.size + 2, 1, none⟩) (by simp) (.slice none 0 0))
            clear n2 hSk hO1 h13
            go_wp2_with fail
            refine bodyPost_ret (rclosed_results rfl rfl HR.out) rfl ?_
            exact ⟨0, _, by rw [HCE.out], HB1.out, fun _ => ⟨rfl, rfl⟩, fun h => absurd (HCE.out.symm.trans h) (by decide)⟩
          · have g13 : ¬ (12 : Int) < (partsL x.op (c1, c2)).length := by omega
            have HP2 : Hid (ls.any (wideB (c1, c2)) = (ls.drop (k + 1)).any (wideB (c1, c2))) := Lib.hid (by
              rw [hP.out, HAny.out]
              unfold wideB
              rw [decide_eq_false h13]; rfl)
            obtain ⟨i0, hi0, hz0, hz1, hz2⟩ := info_parts info_l
            have hz := HZ.out
            have z4 := freeH hz 3
            obtain ⟨Y, hY⟩ : ∃ Y, wr.setCell ⟨V.heap.size, 3, none⟩ (.slice va (partsL x.op (c1, c2)).length vc) = Y := ⟨_, rfl⟩
            have hLY : Y.heap[V.heap.size]? = some (.cells #[.int .i64 x.fr, .int .i64 x.to, .int .i64 x.dl, .slice va (partsL x.op (c1, c2)).length vc] 27 (0, 0)) := by rw [← hY, heap_same hz 3]; rfl
            have hVY : Below V.heap.size V Y := by rw [← hY]; exact HVB.out.setCell (p := ⟨V.heap.size, 3, none⟩) (by simp) _
            have HSY := Lib.hid (hSt.out.keep hVY)
            have HOR : Hid (OpenRow Y (.slice va (partsL x.op (c1, c2)).length vc) (closeK (c1, c2) x).op) := Lib.hid (by rw [← hY]; exact OpenRow.of_own (row_set3 hO1 hz tNeLS 3 _))
            have hNY : Y.heap[w.heap.size]? = some (.cells #[.int .i64 st, .slice (some ⟨b, off, none⟩) ls.length oc] 24 (0, 0)) := (hVY.block _ (by have := hSt.out.far; omega)).trans hNb.out
            have HNY := Lib.hid hNY
            have l0 := cellH hLY 0
            have l1 := cellH hLY 1
            have l2 := cellH hLY 2
            have l3 := cellH hLY 3
            have x1 := cellH HSY.out.ob 1
            have x1' := cellH hSk.ob 1
            simp at l0 l1 l2 l3 x1 x1'
            have hlen := closeL_len (ls.take k) (c1, c2)
            have hlk : (closeL (ls.take k) (c1, c2)).length ≤ 40 := by
              rw [hlen, List.length_take]; omega
            have hfx := HSY.out.far.2
            have hfx2 := hSt.out.far.2
            have hXV : X ≠ V.heap.size := by omega
            have hVX : V.heap.size ≠ X := by omega
            have hrw := HSY.out.row
            clear h13 hlen hLY hVY hz hSk hO1 hNY
            go_wp2_with (at_builtin; refine wpList_append_own _ rfl _ _ 22 rfl (X + 1) 27 i0 (.agg #[.int .i64 0, .int .i64 0, .int .i64 0, .slice none 0 0]) 4 48 Try.underlying22 hi0 hz0 hz1 hz2 rfl (by decide) _ _ _ rfl (World.ownsRow.alloc hrw _) ⟨Y.heap.size, 0, none⟩ 1 1 [.int .i64 x.fr, .int .i64 x.to, .int .i64 x.dl, .slice va (partsL x.op (c1, c2)).length vc] rfl rfl (fun j u h => cell_four _ _ _ _ _ _ j u h) (by simp [Value.oneCell']) (by unfold maxLen; omega) (by omega) (by simp; omega) ?_; intro v' w1 hown' hgrow _; obtain ⟨g', cap', rfl⟩ := ownsRow_succ hown'; obtain ⟨z1, _, z3⟩ := HSY.out.append (k := closeK (c1, c2) x) HOR.out hown' hgrow; have zl := HSY.out.low hgrow (v' := .slice (some ⟨g', 0, none⟩) ((closeL (ls.take k) (c1, c2)).length + 1) cap') (b := w.heap.size) (by have := HSY.out.far; omega); have y1 := cellH z3 1; have y2 := freeH z3 1; simp at y1)
            go_roundw
            case rel => exact ⟨k + 1, _, _, by omega, by go_num, Lib.hid (by rw [HTk.out]; exact z1), Lib.hid (zl.trans HNY.out), HP2⟩
            case measure => simp [intOf]; omega
    · skip
      obtain rfl : ls.length = k := by omega
      have HCE : Hid (closedE st ls (c1, c2) = 0) := Lib.hid (by rw [HV.out, hP.out, List.drop_length]; rfl)
      have hS := hSt.out
      rw [List.take_length] at hS
      obtain ⟨ua, uc, rfl⟩ := row_form hS.row
      
      have hf := hS.far
      have HB1 := Lib.hid ((hS.below.setCell (p := ⟨w.heap.size + 2, 0, none⟩) (by simp) (.int .i64 st)).setCell (p := ⟨w.heap.size + 2, 1, none⟩) (by simp) (.slice ua (closeL ls (c1, c2)).length uc))
      have HR : Hid (((V.setCell ⟨w.heap.size + 2, 0, none⟩ (.int .i64 st)).setCell ⟨w.heap.size + 2, 1, none⟩ (.slice ua (closeL ls (c1, c2)).length uc)).heap[w.heap.size + 2]? = some (.cells #[.int .i64 st, .slice ua (closeL ls (c1, c2)).length uc] 24 (0, 0))) := Lib.hid (set_pair5 hS.rb)
      have HN : Hid (NRow ((V.setCell ⟨w.heap.size + 2, 0, none⟩ (.int .i64 st)).setCell ⟨w.heap.size + 2, 1, none⟩ (.slice ua (closeL ls (c1, c2)).length uc)) (.slice ua (closeL ls (c1, c2)).length uc) (closeL ls (c1, c2))) := Lib.hid (NRow.of_links
        (ownsRow_setCell_below (ownsRow_setCell_below hS.row (a := ⟨w.heap.size + 2, 0, none⟩) (by simp only; omega) _) (a := ⟨w.heap.size + 2, 1, none⟩) (by simp only; omega) _)
        (hS.lks.keep (fun b C fr hh => by
          have hne : b ≠ w.heap.size + 2 := fun q => by rw [q, hS.rb] at hh; cases hh
          rw [heap_other _ _ _ _ _ hne, heap_other _ _ _ _ _ hne]; exact hh))
        (fun k hk => by
          unfold closeL at hk
          obtain ⟨y, hy, rfl⟩ := List.mem_map.1 hk
          have h1 := (linkE_ok (HKS.out y hy).2).2.2.1
          have h2 := partsL_len (c1, c2) y.op
          show (partsL y.op (c1, c2)).length ≤ _
          omega) (by rw [closeL_len]; omega))
      have x0 := cellH hS.ob 0
      have x1 := cellH hS.ob 1
      have r0 := cellH hS.rb 0
      have r1 := cellH hS.rb 1
      have f0 := freeH hS.rb 0
      have f1 := freeH hS.rb 1
      simp at x0 x1 r0 r1
      clear hS hf hkl
      go_wp2_with fail
      refine bodyPost_ret (rclosed_results rfl rfl HR.out) rfl ?_
      exact ⟨st, _, by rw [HCE.out], HB1.out, fun h => absurd HCE.out h, fun _ => ⟨rfl, HN.out⟩⟩
end Go.Proofs.Ytiboolbndfhomaa
