/- The reference of layer 2: CheckBounds. -/
import Derived.Test.YteghcdabaigcbaaNE4
import Derived.Test.YteghcdabaigcbaaNC6
import Derived.Test.YteghcdabaigcbaaND5
set_option linter.unusedVariables false
set_option linter.unusedSimpArgs false
namespace Go.Proofs.Yteghcdabaigcbaa
open Go.RowKit

set_option maxRecDepth 100000 in
set_option maxHeartbeats 8000000 in
theorem rCheckBounds_any (st : Int) (o : Value) (ls : List Lk) (a t : Int) (v : Value) (l : List Int) (w : World) (hv : NRow w o ls) (hn : INRow w v l) (hll : l.length ≤ 1000000) (hst : -9223372036854775808 ≤ st ∧ st ≤ 9223372036854775807) :
    Calls Try.prog 28 #[ntV st o, .int .i64 a, .int .i64 t, v] w fun e w' => e = .returned (.int .i64 (boundsE st ls a t l)) ∧ Below w.heap.size w w' := by
  have HC := Lib.hid (fun w' (h : Below w.heap.size w w') => rasked_any st o ls a t w' (hv.keep h) hst)
  obtain ⟨oa, oc, rfl, hlc⟩ := hv.row.form
  obtain ⟨va, vc, rfl, hnc⟩ := hn.form
  have HLC := Lib.hid hlc
  have HOP := Lib.hid hv.op
  have HA := Lib.hid (fun W => net_cells w st (.slice oa ls.length oc) (W := W))
  have HB0 := Lib.hid ((Below.refl _ w).alloc (Nat.le_refl w.heap.size) (.cells #[.int .i64 st, .slice oa ls.length oc] 24))
  have HNC := Lib.hid hnc
  clear hv hlc hn hnc
  unfold ntV at HC ⊢
  by_cases hE : startE st ls a t = 0
  case neg =>
    have HV : Hid (boundsE st ls a t l = startE st ls a t) := Lib.hid (by unfold boundsE; rw [if_neg hE])
    have hz : (startE st ls a t != 0) = true := by simpa using hE
    obtain ⟨q, hq⟩ : ∃ q, startE st ls a t = q := ⟨_, rfl⟩
    rw [hq] at HC HV hz
    clear hE hq
    go_enter Try.func28, Try.ntmps28
    go_wp2_with fail
    refine (HC.out _ HB0.out).mono ?_
    rintro e w1 ⟨rfl, hb⟩
    have HB1 := Lib.hid (HB0.out.trans (hb.mono HB0.out.size))
    clear hb
    go_wp2_with fail
    go_ret
    exact ⟨ret_int' HV.out.symm, HB1.out⟩
  obtain ⟨hne, a0, a1, t0, t1⟩ := startE_ok hE
  obtain ⟨s1, s10, l40, hks⟩ := netE_ok hne
  obtain ⟨m, rfl⟩ : ∃ m : Nat, a = m := ⟨a.toNat, by omega⟩
  obtain ⟨j, rfl⟩ : ∃ s : Nat, st = s := ⟨st.toNat, by omega⟩
  have HKS := Lib.hid hks
  have hj10 : j ≤ 10 := by omega
  have hmj : m < j := by omega
  have hmi : (m : Int) < j := by omega
  have hm0 : (0 : Int) ≤ m := by omega
  have HV0 : Hid (boundsE j ls m t l = if (decide ((l.length : Int) = j) && decide (0 ≤ at0 l m) && decide (at0 l m ≤ t) && l.all numB && ls.all (bndK l)) = true then 0 else 8) := Lib.hid (by
    unfold boundsE
    rw [if_pos hE, atI_nat])
  rw [hE] at HC
  clear hE hne hks a0 a1 s1 s10 hst
  by_cases hlj : l.length = j
  case neg =>
    have HN : Hid (boundsE j ls m t l = 8) := Lib.hid (by rw [HV0.out, decide_eq_false (p := (l.length : Int) = j) (by omega)]; simp)
    have g : ((l.length : Int) != j) = true := by simp; omega
    clear hlj
    go_enter Try.func28, Try.ntmps28
    go_wp2_with fail
    refine (HC.out _ HB0.out).mono ?_
    rintro e w1 ⟨rfl, hb⟩
    obtain ⟨n0, n1, hlt, hw1⟩ := HA.out w1 hb
    have HB1 := Lib.hid hw1
    clear hb hw1
    go_wp2_with fail
    go_ret
    exact ⟨ret_int' HN.out.symm, HB1.out⟩
  have HV : Hid (boundsE j ls m t l = if (decide (0 ≤ at0 l m) && decide (at0 l m ≤ t) && l.all numB && ls.all (bndK l)) = true then 0 else 8) := Lib.hid (by
    rw [HV0.out, decide_eq_true (p := (l.length : Int) = j) (by omega)]; simp)
  clear HV0 hll
  subst hlj
  obtain ⟨bl, ol, rfl, hbl, _⟩ := HNC.out m hmj
  have KN : Hid (∀ W', Below w.heap.size w W' → ∀ k, k < l.length → W'.cell? ⟨bl, ol + k, none⟩ = some (.int .i64 (at0 l k))) := Lib.hid (fun W' h k hk => by
    obtain ⟨b', o', e', hlt, hc⟩ := HNC.out k hk
    cases e'
    exact (h.cell (p := ⟨bl, _, none⟩) hlt).trans hc)
  have HBL := Lib.hid hbl
  clear hbl HNC
  go_enter Try.func28, Try.ntmps28
  go_wp2_with fail
  refine (HC.out _ HB0.out).mono ?_
  rintro e w1 ⟨rfl, hb⟩
  obtain ⟨n0, n1, hlt, hw1⟩ := HA.out w1 hb
  have HB1 := Lib.hid hw1
  have HCN : Hid (∀ W, Below w1.heap.size w1 W → W.cell? ⟨w.heap.size, 1, none⟩ = some (.slice oa ls.length oc)) := Lib.hid (fun W h => (h.cell (p := ⟨w.heap.size, 1, none⟩) hlt).trans n1)
  clear hb hw1
  go_wp2_with fail
  go_loopw [10] (fun i wr => ∃ k : Nat, k ≤ l.length ∧ i = .int .i64 k ∧ wr = w1 ∧ Hid (l.all numB = (l.drop k).all numB)) (fun i _ => l.length - (intOf i).toNat)
  case atStart => exact ⟨0, Nat.zero_le _, rfl, rfl, Lib.hid rfl⟩
  case round =>
    obtain ⟨k, hk, rfl, rfl, hT⟩ := hrel
    clear n0 n1
    by_cases hkl : k < l.length
    · have HKL := Lib.hid hkl
      have hki : (k : Int) < l.length := by omega
      have hk0 : (0 : Int) ≤ k := by omega
      have ck := KN.out wr HB1.out k hkl
      have hD : Hid ((l.drop k).all numB = (inB (at0 l k) (-1) 1048576 && (l.drop (k + 1)).all numB)) := Lib.hid (by
        rw [all_drop numB hkl]
        unfold inB numB at0
        rw [List.getD_eq_getElem?_getD, List.getElem?_eq_getElem hkl]; rfl)
      obtain ⟨u, hu⟩ : ∃ u, at0 l k = u := ⟨_, rfl⟩
      rw [hu] at ck hD
      have HW := Lib.hid (fun w' => rwithin_any u (-1) 1048576 w')
      cases hin : inB u (-1) 1048576
      · have HN : Hid (boundsE l.length ls m t l = 8) := Lib.hid (by rw [HV.out, hT.out, hD.out, hin]; simp)
        rw [hin] at HW
        clear hin hD hu
        go_wp2_with fail
        refine (HW.out _).mono ?_
        rintro e w2 ⟨rfl, rfl⟩
        go_wp2_with fail
        go_ret
        exact ⟨ret_int' HN.out.symm, HB1.out⟩
      · have HN : Hid (l.all numB = (l.drop (k + 1)).all numB) := Lib.hid (by rw [hT.out, hD.out, hin]; rfl)
        rw [hin] at HW
        clear hin hD hu
        go_wp2_with fail
        refine (HW.out _).mono ?_
        rintro e w2 ⟨rfl, rfl⟩
        go_wp2_with fail
        go_roundw
        case rel => exact ⟨k + 1, HKL.out, by go_num, by trivial, HN⟩
        case measure => have := HKL.out; simp [intOf]; omega
    · obtain rfl : k = l.length := by omega
      have HNB : Hid (l.all numB = true) := Lib.hid (by rw [hT.out, List.drop_length]; rfl)
      have cm := KN.out wr HB1.out m hmj
      obtain ⟨lm, hlm⟩ : ∃ u, at0 l m = u := ⟨_, rfl⟩
      have HLM := Lib.hid hlm
      rw [hlm] at cm
      clear hlm
      have hi0 : (m : Int) < l.length := by omega
      by_cases h1 : lm < 0
      · have HN : Hid (boundsE l.length ls m t l = 8) := Lib.hid (by rw [HV.out, HLM.out, decide_eq_false (p := 0 ≤ lm) (by omega)]; simp)
        go_wp2_with fail
        go_ret
        exact ⟨ret_int' HN.out.symm, HB1.out⟩
      have g1 : decide (lm < 0) = false := decide_eq_false h1
      by_cases h2 : t < lm
      · have HN : Hid (boundsE l.length ls m t l = 8) := Lib.hid (by rw [HV.out, HLM.out, decide_eq_false (p := lm ≤ t) (by omega)]; simp)
        clear h1
        go_wp2_with fail
        go_ret
        exact ⟨ret_int' HN.out.symm, HB1.out⟩
      have g2 : decide (t < lm) = false := decide_eq_false h2
      have HV2 : Hid (boundsE l.length ls m t l = if ls.all (bndK l) = true then 0 else 8) := Lib.hid (by
        rw [HV.out, HLM.out, HNB.out, decide_eq_true (p := 0 ≤ lm) (by omega), decide_eq_true (p := lm ≤ t) (by omega)]; simp)
      clear h1 h2 HV
      go_wp2_with fail
      go_loopw [12] (fun i ws => ∃ (q : Nat), q ≤ ls.length ∧ i = .int .i64 q ∧ Hid (Below wr.heap.size wr ws) ∧ Hid (ls.all (bndK l) = (ls.drop q).all (bndK l))) (fun i _ => ls.length - (intOf i).toNat)
      case atStart => exact ⟨0, Nat.zero_le _, rfl, Lib.hid (Below.refl _ _), Lib.hid rfl⟩
      case round =>
        rename_i wr0
        obtain ⟨q, hq, rfl, hB, hP⟩ := hrel
        clear cm
        by_cases hql : q < ls.length
        · have HQL := Lib.hid hql
          obtain ⟨b, off, rfl, hb, c0, c1, c2, ov, c3, hsp⟩ := HLC.out q hql
          have hBw : Below w.heap.size w wr := HB1.out.trans (hB.out.mono HB1.out.size)
          have hqi : (q : Int) < ls.length := by omega
          have hq0 : (0 : Int) ≤ q := by omega
          have e0 := (hBw.cell (p := ⟨b, _, none⟩) hb).trans c0
          have e1 := (hBw.cell (p := ⟨b, _, none⟩) hb).trans c1
          have e2 := (hBw.cell (p := ⟨b, _, none⟩) hb).trans c2
          have e3 := (hBw.cell (p := ⟨b, _, none⟩) hb).trans c3
          have hN1 := HCN.out wr hB.out
          have hlo := HOP.out _ (lk_mem hql)
          have hen := endsB_ok (HKS.out _ (lk_mem hql)).1
          have hsp1 := hsp.keep hBw
          have hD : Hid ((ls.drop q).all (bndK l) = (bndK l (ls.getD q .nil) && (ls.drop (q + 1)).all (bndK l))) := Lib.hid (by rw [ldrop_at hql]; rfl)
          obtain ⟨x, hx⟩ : ∃ x, ls.getD q .nil = x := ⟨_, rfl⟩
          rw [hx] at e0 e1 e2 hlo hsp1 hen hD
          obtain ⟨fr, to, dl, op⟩ := x
          simp only at e0 e1 e2 hlo hen
          obtain ⟨oa', ocap, rfl, _⟩ := hsp1.form
          obtain ⟨f, rfl⟩ : ∃ f : Nat, fr = f := ⟨fr.toNat, by omega⟩
          obtain ⟨g, rfl⟩ : ∃ g : Nat, to = g := ⟨to.toNat, by omega⟩
          have hfl : f < l.length := by omega
          have hgl : g < l.length := by omega
          have hfi : (f : Int) < l.length := by omega
          have hgi : (g : Int) < l.length := by omega
          have hf0 : (0 : Int) ≤ f := by omega
          have hg0 : (0 : Int) ≤ g := by omega
          obtain ⟨lg, hlg⟩ : ∃ y, at0 l g = y := ⟨_, rfl⟩
          obtain ⟨lf, hlf⟩ : ∃ y, at0 l f = y := ⟨_, rfl⟩
          have HBK : Hid (bndK l ⟨f, g, dl, op⟩ = (decide (lf < 0) || match leaveO ⟨f, g, dl, op⟩ lf with
            | none => true
            | some d => decide (0 ≤ lg) && decide (lg ≤ d + dl))) := Lib.hid (by
              unfold bndK
              simp only [atI_nat, hlf, hlg]
              rfl)
          have HLB := Lib.hid (fun d => leaveO_bd (k := ⟨f, g, dl, op⟩) (t := lf) (x := d))
          have HCL := Lib.hid (fun w' (h : Below wr.heap.size wr w') => rLeave_any ⟨f, g, dl, op⟩ lf _ w' (hsp1.keep h) hlo)
          unfold lkV at HCL
          simp only at HCL
          clear hx
          obtain ⟨x, hx⟩ : ∃ x, leaveO ⟨f, g, dl, op⟩ lf = x := ⟨_, rfl⟩
          rw [hx] at HCL HLB HBK
          have cf := KN.out wr hBw f hfl
          rw [hlf] at cf
          have hbs : bl < wr.heap.size := Nat.lt_of_lt_of_le HBL.out hBw.size
          have hbn : bl ≠ wr.heap.size := by omega
          have KG : Hid (∀ W', Below wr.heap.size wr W' → W'.cell? ⟨bl, ol + f, none⟩ = some (.int .i64 lf) ∧ W'.cell? ⟨bl, ol + g, none⟩ = some (.int .i64 lg)) := Lib.hid (fun W' h => by
            have h2 := hBw.trans (h.mono hBw.size)
            exact ⟨by rw [← hlf]; exact KN.out W' h2 f hfl, by rw [← hlg]; exact KN.out W' h2 g hgl⟩)
          have HBW := Lib.hid hBw
          clear c0 c1 c2 c3 hx hsp hen hlf hlg hsp1 hlo hb hBw
          obtain ⟨W0, hW0⟩ : ∃ W0, wr.alloc (.cells #[.int .i64 f, .int .i64 g, .int .i64 dl, .slice oa' op.length ocap] 27) = W0 := ⟨_, rfl⟩
          have hl0 : W0.heap[wr.heap.size]? = some (.cells #[.int .i64 f, .int .i64 g, .int .i64 dl, .slice oa' op.length ocap] 27 (0, 0)) := by rw [← hW0]; exact heap_alloc_new wr _
          have hw0 : Below wr.heap.size wr W0 := by rw [← hW0]; exact (Below.refl _ wr).alloc (Nat.le_refl _) _
          have hws : wr.heap.size < W0.heap.size := (Array.getElem?_eq_some_iff.1 hl0).1
          have HCL2 := Lib.hid (fun w' (h : Below W0.heap.size W0 w') => (HCL.out w' (hw0.trans (h.mono hw0.size))).mono fun e w'' (hh : _ ∧ Below w'.heap.size w' w'') => And.intro hh.1 (h.trans (hh.2.mono h.size)))
          have K0 : Hid (∀ W, Below W0.heap.size W0 W → W.cell? ⟨wr.heap.size, 0, none⟩ = some (.int .i64 f) ∧ W.cell? ⟨wr.heap.size, 1, none⟩ = some (.int .i64 g) ∧ W.cell? ⟨wr.heap.size, 2, none⟩ = some (.int .i64 dl) ∧ W.cell? ⟨wr.heap.size, 3, none⟩ = some (.slice oa' op.length ocap) ∧
              W.cell? ⟨bl, ol + f, none⟩ = some (.int .i64 lf) ∧ W.cell? ⟨bl, ol + g, none⟩ = some (.int .i64 lg)) := Lib.hid (fun W h => by
            obtain ⟨r0, r1⟩ := KG.out W (hw0.trans (h.mono hw0.size))
            have hl := (h.block _ hws).trans hl0
            exact ⟨cellH hl 0, cellH hl 1, cellH hl 2, cellH hl 3, r0, r1⟩)
          have HBA := Lib.hid (hB.out.trans (hw0.mono hB.out.size))
          have HBW0 := Lib.hid (HBW.out.trans (hw0.mono HBW.out.size))
          have HW0 := Lib.hid hW0
          clear hl0 hw0 hws HCL hW0
          by_cases hlf0 : lf < 0
          · have HN : Hid (ls.all (bndK l) = (ls.drop (q + 1)).all (bndK l)) := Lib.hid (by rw [hP.out, hD.out, HBK.out, decide_eq_true hlf0]; rfl)
            go_wp2_with fail
            go_roundw
            case rel => exact ⟨q + 1, HQL.out, by go_num, by have := HBA.out; rw [← HW0.out] at this; exact Lib.hid this, HN⟩
            case measure => have := HQL.out; simp [intOf]; omega
          have g0 : decide (lf < 0) = false := decide_eq_false hlf0
          have HLF0 := Lib.hid hlf0
          clear hlf0
          cases x with
          | none =>
            have HN : Hid (ls.all (bndK l) = (ls.drop (q + 1)).all (bndK l)) := Lib.hid (by rw [hP.out, hD.out, HBK.out, g0]; rfl)
            unfold optV at HCL2
            clear HBK
            go_wp2_with fail
            rw [HW0.out]
            refine wp_region_turn 11 (fun _ w' => Below W0.heap.size W0 w') (by kernel_rfl) (by kernel_rfl) ((Below.refl _ W0).drew) ?_
            simp only [List.take_succ_cons, List.take_zero, List.drop_succ_cons, List.drop_zero]
            iterate 11
              (first
                | (apply turnC_step (by rfl); (intro w' hw'; go_simp; exact HCL2.out w' hw'))
                | (apply turnC_step (by rfl); (intro w' hw'; obtain ⟨q0, q1, q2, q3, q4, q5⟩ := K0.out w' hw'; go_simp; first | exact ⟨hw', rfl⟩ | exact rfl)))
              simp only [Act.put, List.setIfInBounds_toArray, List.set_cons_succ, List.set_cons_zero]
            intro listed w4 _ hw4
            have HB4 := Lib.hid (HBA.out.trans (hw4.mono HBA.out.size))
            clear hw4
            go_wp2_with fail
            go_quiet (fail)
            go_wp2_with fail
            go_roundw
            case rel => exact ⟨q + 1, HQL.out, by go_num, Lib.hid (below_drewN HB4.out _), HN⟩
            case measure => have := HQL.out; simp [intOf]; omega
          | some y =>
            obtain ⟨d1, d2, d3, d4⟩ := HLB.out y rfl
            simp only at d3 d4
            unfold optV at HCL2
            have HBK2 : Hid (bndK l ⟨f, g, dl, op⟩ = (decide (0 ≤ lg) && decide (lg ≤ y + dl))) := Lib.hid (by rw [HBK.out, g0]; rfl)
            clear HLB HBK
            have hwr : IntKind.i64.wrap (y + dl) = y + dl := IntWalk.i64_in _ (by omega)
            by_cases p2 : lg < 0
            · have HN : Hid (boundsE l.length ls m t l = 8) := Lib.hid (by rw [HV2.out, hP.out, hD.out, HBK2.out, decide_eq_false (p := 0 ≤ lg) (by omega)]; rfl)
              go_wp2_with fail
              rw [HW0.out]
              refine wp_region_turn 11 (fun _ w' => Below W0.heap.size W0 w') (by kernel_rfl) (by kernel_rfl) ((Below.refl _ W0).drew) ?_
              simp only [List.take_succ_cons, List.take_zero, List.drop_succ_cons, List.drop_zero]
              iterate 11
                (first
                  | (apply turnC_step (by rfl); (intro w' hw'; go_simp; exact HCL2.out w' hw'))
                  | (apply turnC_step (by rfl); (intro w' hw'; obtain ⟨q0, q1, q2, q3, q4, q5⟩ := K0.out w' hw'; go_simp; first | exact ⟨hw', rfl⟩ | exact rfl)))
                simp only [Act.put, List.setIfInBounds_toArray, List.set_cons_succ, List.set_cons_zero]
              intro listed w4 _ hw4
              obtain ⟨k0, k1, k2, k3, k4, k5⟩ := K0.out w4 hw4
              have HB4 := Lib.hid (HBW0.out.trans (hw4.mono HBW0.out.size))
              clear hw4
              go_wp2_with fail
              go_quiet (fail)
              go_wp2_with fail
              go_ret
              exact ⟨ret_int' HN.out.symm, below_drewN HB4.out _⟩
            have g3 : decide (lg < 0) = false := decide_eq_false p2
            by_cases p3 : y + dl < lg
            · have HN : Hid (boundsE l.length ls m t l = 8) := Lib.hid (by rw [HV2.out, hP.out, hD.out, HBK2.out, decide_eq_false (p := lg ≤ y + dl) (by omega)]; simp)
              go_wp2_with fail
              rw [HW0.out]
              refine wp_region_turn 11 (fun _ w' => Below W0.heap.size W0 w') (by kernel_rfl) (by kernel_rfl) ((Below.refl _ W0).drew) ?_
              simp only [List.take_succ_cons, List.take_zero, List.drop_succ_cons, List.drop_zero]
              iterate 11
                (first
                  | (apply turnC_step (by rfl); (intro w' hw'; go_simp; exact HCL2.out w' hw'))
                  | (apply turnC_step (by rfl); (intro w' hw'; obtain ⟨q0, q1, q2, q3, q4, q5⟩ := K0.out w' hw'; go_simp; first | exact ⟨hw', rfl⟩ | exact rfl)))
                simp only [Act.put, List.setIfInBounds_toArray, List.set_cons_succ, List.set_cons_zero]
              intro listed w4 _ hw4
              obtain ⟨k0, k1, k2, k3, k4, k5⟩ := K0.out w4 hw4
              have HB4 := Lib.hid (HBW0.out.trans (hw4.mono HBW0.out.size))
              clear hw4
              go_wp2_with fail
              go_quiet (fail)
              go_wp2_with fail
              go_ret
              exact ⟨ret_int' HN.out.symm, below_drewN HB4.out _⟩
            have g4 : decide (y + dl < lg) = false := decide_eq_false p3
            have HN : Hid (ls.all (bndK l) = (ls.drop (q + 1)).all (bndK l)) := Lib.hid (by rw [hP.out, hD.out, HBK2.out, decide_eq_true (p := 0 ≤ lg) (by omega), decide_eq_true (p := lg ≤ y + dl) (by omega)]; rfl)
            go_wp2_with fail
            rw [HW0.out]
            refine wp_region_turn 11 (fun _ w' => Below W0.heap.size W0 w') (by kernel_rfl) (by kernel_rfl) ((Below.refl _ W0).drew) ?_
            simp only [List.take_succ_cons, List.take_zero, List.drop_succ_cons, List.drop_zero]
            iterate 11
              (first
                | (apply turnC_step (by rfl); (intro w' hw'; go_simp; exact HCL2.out w' hw'))
                | (apply turnC_step (by rfl); (intro w' hw'; obtain ⟨q0, q1, q2, q3, q4, q5⟩ := K0.out w' hw'; go_simp; first | exact ⟨hw', rfl⟩ | exact rfl)))
              simp only [Act.put, List.setIfInBounds_toArray, List.set_cons_succ, List.set_cons_zero]
            intro listed w4 _ hw4
            obtain ⟨k0, k1, k2, k3, k4, k5⟩ := K0.out w4 hw4
            have HB4 := Lib.hid (HBA.out.trans (hw4.mono HBA.out.size))
            clear hw4 p2 p3
            go_wp2_with fail
            go_quiet (fail)
            go_wp2_with fail
            go_roundw
            case rel => exact ⟨q + 1, HQL.out, by go_num, Lib.hid (below_drewN HB4.out _), HN⟩
            case measure => have := HQL.out; simp [intOf]; omega
        · obtain rfl : q = ls.length := by omega
          have HN : Hid (boundsE l.length ls m t l = 0) := Lib.hid (by rw [HV2.out, hP.out, List.drop_length]; rfl)
          have hN1 := HCN.out wr hB.out
          have HBx := Lib.hid (HB1.out.trans (hB.out.mono HB1.out.size))
          go_wp2_with fail
          go_ret
          exact ⟨ret_int' HN.out.symm, HBx.out⟩
end Go.Proofs.Yteghcdabaigcbaa
