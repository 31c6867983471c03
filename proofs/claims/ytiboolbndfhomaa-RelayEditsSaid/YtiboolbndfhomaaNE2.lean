/- The reference of layer 2: Earliest. -/
import Derived.Test.YtiboolbndfhomaaNE1
set_option linter.unusedVariables false
set_option linter.unusedSimpArgs false
namespace Go.Proofs.Ytiboolbndfhomaa
open Go.RowKit

/-- What lies where while the reference's loops go on. -/
structure EtS (w W : World) (st : Nat) (ov : Value) (A : Nat) (at' : List Int) : Prop where
  lt : LtS w W st ov A at'
  res : W.heap[w.heap.size + 1]? = some (.cells #[.slice none 0 0, .int .i64 0] 39 (0, 0))
  far : w.heap.size + 1 < A
theorem EtS.keep {w W W' : World} {st : Nat} {ov : Value} {A : Nat} {at' : List Int} (h : EtS w W st ov A at') (hb : Below W.heap.size W W') : EtS w W' st ov A at' := by
  have l := h.lt.lie
  have f := h.far
  exact ⟨h.lt.keep hb, (hb.block _ (by omega)).trans h.res, h.far⟩
theorem EtS.setA {w W : World} {st : Nat} {ov : Value} {A : Nat} {at' : List Int} (h : EtS w W st ov A at') (i : Nat) (v : Int) : EtS w (W.setCell ⟨A, i, none⟩ (.int .i64 v)) st ov A (at'.set i v) := by
  have f := h.far
  exact ⟨h.lt.setA i v, (heap_other _ _ _ _ _ (by omega)).trans h.res, h.far⟩
theorem info_ri : (Try.prog.info? 39).map (·.size) = some 2 := by kernel_rfl
theorem rE_results {tmps : Array Value} {w : World} {R : Nat} {u v : Value} (h4 : tmps.getD 6 undef = .pointer (some ⟨R, 0, none⟩)) (hg : w.heap[R]? = some (.cells #[u, v] 39 (0, 0))) : (results Try.f19 tmps).run Try.prog w = .ok (.agg #[u, v]) w := by
  have h4' : tmps[6]?.getD undef = .pointer (some ⟨R, 0, none⟩) := by simpa using h4
  simp [results, Try.results19, asAddr, h4', run_loadVar_row w R 39 39 #[u, v] (0, 0) _ hg Try.underlying39 rfl info_ri]
theorem set_pair {w : World} {R : Nat} {a b u v : Value} {t : TypeId} (hg : w.heap[R]? = some (.cells #[a, b] t (0, 0))) : ((w.setCell ⟨R, 0, none⟩ u).setCell ⟨R, 1, none⟩ v).heap[R]? = some (.cells #[u, v] t (0, 0)) := by
  have h1 := heap_same hg 0 u
  rw [heap_same h1 1 v]; rfl
/-- What the reference's Earliest returns. -/
def REarlyOut (st : Int) (ls : List Lk) (a t : Int) (w : World) (e : Ending) (w' : World) : Prop :=
  ∃ v, e = .returned (.agg #[v, .int .i64 (startE st ls a t)]) ∧ Below w.heap.size w w' ∧ (startE st ls a t ≠ 0 → v = .slice none 0 0) ∧
    (startE st ls a t = 0 → ∃ at' by', INRow w' v at' ∧ Inv st.toNat ls a.toNat t at' by' ∧ Shut ls at')
set_option maxRecDepth 100000 in
set_option maxHeartbeats 8000000 in
theorem rEarliest_any (st : Int) (o : Value) (ls : List Lk) (a t : Int) (w : World) (hv : NRow w o ls) (hst : -9223372036854775808 ≤ st ∧ st ≤ 9223372036854775807) :
    Calls Try.prog 19 #[ntV st o, .int .i64 a, .int .i64 t] w fun e w' => REarlyOut st ls a t w e w' := by
  have HC := Lib.hid (fun w' (h : Below w.heap.size w w') => rasked_any st o ls a t w' (hv.keep h) hst)
  obtain ⟨oa, oc, rfl, hlc⟩ := hv.row.form
  have HLC := Lib.hid hlc
  have HOP := Lib.hid hv.op
  have HA := Lib.hid (fun W' => two_cells w #[.int .i64 st, .slice oa ls.length oc] #[.slice none 0 0, .int .i64 0] 24 39 (W := W'))
  have HB0 := Lib.hid (((Below.refl _ w).alloc (Nat.le_refl w.heap.size) (.cells #[.int .i64 st, .slice oa ls.length oc] 24)).alloc (by simp) (.cells #[.slice none 0 0, .int .i64 0] 39))
  unfold ntV at HC ⊢
  obtain ⟨W2, hW2⟩ : ∃ W2, (w.alloc (.cells #[.int .i64 st, .slice oa ls.length oc] 24)).alloc (.cells #[.slice none 0 0, .int .i64 0] 39) = W2 := ⟨_, rfl⟩
  rw [hW2] at HA HB0
  have HW2 := Lib.hid hW2
  clear hv hlc hW2
  by_cases hE : startE st ls a t = 0
  case neg =>
    have HE := Lib.hid hE
    have hz : (startE st ls a t != 0) = true := by simpa using hE
    obtain ⟨q, hq⟩ : ∃ q, startE st ls a t = q := ⟨_, rfl⟩
    have HQ := Lib.hid hq
    rw [hq] at HC hz
    clear hE hq
    go_enter Try.func19, Try.ntmps19
    go_wp2_with fail
    rw [HW2.out]
    refine (HC.out _ HB0.out).mono ?_
    rintro e w1 ⟨rfl, hb⟩
    obtain ⟨n0, n1, hlt, hw1⟩ := HA.out w1 hb
    have r0 := cellH n1 0
    have r1 := cellH n1 1
    have f0 := freeH n1 0
    have f1 := freeH n1 1
    simp at r0 r1
    have HR : Hid (((w1.setCell ⟨w.heap.size + 1, 0, none⟩ (.slice none 0 0)).setCell ⟨w.heap.size + 1, 1, none⟩ (.int .i64 q)).heap[w.heap.size + 1]? = some (.cells #[.slice none 0 0, .int .i64 q] 39 (0, 0))) := Lib.hid (set_pair n1)
    have HB1 := Lib.hid ((hw1.setCell (p := ⟨w.heap.size + 1, 0, none⟩) (by simp) (.slice none 0 0)).setCell (p := ⟨w.heap.size + 1, 1, none⟩) (by simp) (.int .i64 q))
    clear hb hw1 n0 n1
    go_wp2_with fail
    refine bodyPost_ret (rE_results rfl HR.out) rfl ?_
    exact ⟨_, by rw [HQ.out], HB1.out, fun _ => rfl, fun h => absurd h HE.out⟩
  obtain ⟨hne, a0, a1, t0, t1⟩ := startE_ok hE
  obtain ⟨s1, s10, l40, hks⟩ := netE_ok hne
  obtain ⟨m, rfl⟩ : ∃ m : Nat, a = m := ⟨a.toNat, by omega⟩
  obtain ⟨j, rfl⟩ : ∃ s : Nat, st = s := ⟨st.toNat, by omega⟩
  have HKS := Lib.hid hks
  have HEO := Lib.hid (ends_okN hks)
  have HE := Lib.hid hE
  have hj10 : j ≤ 10 := by omega
  have hmj : m < j := by omega
  have hmi : (m : Int) < j := by omega
  have hm0 : (0 : Int) ≤ m := by omega
  have HCN := Lib.hid (fun w' => rnone_any j (.slice oa ls.length oc) w' hj10 ⟨_, _, _, rfl⟩)
  unfold ntV at HCN
  have HI0 := Lib.hid (Inv.start (ls := ls) hmj t0 t1)
  rw [hE] at HC
  clear hE hne hks a0 a1 s1 s10 hst
  go_enter Try.func19, Try.ntmps19
  go_wp2_with fail
  rw [HW2.out]
  refine (HC.out _ HB0.out).mono ?_
  rintro e w1 ⟨rfl, hb⟩
  obtain ⟨n0, n1, hlt, hw1⟩ := HA.out w1 hb
  have HB1 := Lib.hid hw1
  have HD1 := Lib.hid hb
  have q0 := cellH n0 0
  have q1 := cellH n0 1
  simp at q0 q1
  clear hb hw1 n0 n1
  go_wp2_with fail
  refine (HCN.out _).mono ?_
  rintro e w2 ⟨A, rfl, hA1, hA2, hA3, hb⟩
  obtain ⟨n0, n1, _, _⟩ := HA.out w2 (HD1.out.trans (hb.mono HD1.out.size))
  have HS0 : Hid (EtS w w2 j (.slice oa ls.length oc) A (List.replicate j (-1))) := Lib.hid ⟨⟨HB1.out.trans (hb.mono HB1.out.size), n0, ⟨by omega, hA2⟩, hA3, by simp⟩, n1, by omega⟩
  have hc0 : w2.cell? ⟨A, m, none⟩ = some (.int .i64 ((List.replicate j (-1)).getD m 0)) := (cellH hA3 m).trans (intsA_at _ _ (by simpa using hmj))
  have hc1 : w2.frozen? ⟨A, m, none⟩ = false := freeH hA3 m
  have HS1 : Hid (EtS w (w2.setCell ⟨A, m, none⟩ (.int .i64 t)) j (.slice oa ls.length oc) A ((List.replicate j (-1)).set m t)) := Lib.hid (HS0.out.setA m t)
  clear hA1 hA2 hA3 hb n0 n1 q0 q1 hlt
  go_wp2_with fail
  go_loopw [9] (fun i wr => ∃ (r : Nat) (c : List Int), r ≤ j + 1 ∧ i = .int .i64 r ∧ Hid (EtS w wr j (.slice oa ls.length oc) A c) ∧ Hid (∃ by', Inv j ls m t c by') ∧ Hid (RK ls m t r c)) (fun i _ => j + 1 - (intOf i).toNat)
  case atStart => exact ⟨0, _, Nat.zero_le _, rfl, HS1, Lib.hid ⟨_, HI0.out⟩, Lib.hid (RK.start HI0.out.fr)⟩
  case round =>
    obtain ⟨r, c, hr, rfl, hF, hI, hR⟩ := hrel
    clear hc0 hc1
    have hN0 : wr.cell? ⟨w.heap.size, 0, none⟩ = some (.int .i64 j) := cellH hF.out.lt.net 0
    by_cases hrj : r ≤ j
    · have HRJ := Lib.hid hrj
      have hri : (r : Int) ≤ j := by omega
      go_wp2_with fail
      go_loopw [10] (fun i ws => ∃ (q : Nat) (d : List Int), q ≤ ls.length ∧ i = .int .i64 q ∧ Hid (EtS w ws j (.slice oa ls.length oc) A d) ∧ Hid (∃ by', Inv j ls m t d by') ∧ Hid (LeA c d) ∧
        Hid (∀ i, i < q → ∃ z z', LeA c z ∧ LeA z' d ∧ ∀ x, 0 ≤ at0 z (frN ls i) → leaveO (lkA ls i) (at0 z (frN ls i)) = some x → 0 ≤ at0 z' (toN ls i) ∧ at0 z' (toN ls i) ≤ x + (lkA ls i).dl)) (fun i _ => ls.length - (intOf i).toNat)
      case atStart => exact ⟨0, c, Nat.zero_le _, rfl, hF, hI, Lib.hid (LeA.refl c), Lib.hid (fun i hi => by omega)⟩
      case round =>
        obtain ⟨q, d, hq, rfl, hF2, hI2, hLe, hP⟩ := hrel
        clear hN0
        have hN1 : wr.cell? ⟨w.heap.size, 1, none⟩ = some (.slice oa ls.length oc) := cellH hF2.out.lt.net 1
        by_cases hql : q < ls.length
        · have HQL := Lib.hid hql
          obtain ⟨b, off, rfl, hb, c0, c1, c2, ov, c3, hsp⟩ := HLC.out q hql
          have hB := hF2.out.lt.below
          have hqi : (q : Int) < ls.length := by omega
          have hq0 : (0 : Int) ≤ q := by omega
          have e0 := (hB.cell (p := ⟨b, _, none⟩) hb).trans c0
          have e1 := (hB.cell (p := ⟨b, _, none⟩) hb).trans c1
          have e2 := (hB.cell (p := ⟨b, _, none⟩) hb).trans c2
          have e3 := (hB.cell (p := ⟨b, _, none⟩) hb).trans c3
          have hlo := HOP.out _ (lk_mem hql)
          have hen := endsB_ok (HKS.out _ (lk_mem hql)).1
          have hsp1 := hsp.keep hB
          have HLK : Hid (lkA ls q = ls.getD q .nil) := Lib.hid rfl
          obtain ⟨x, hx⟩ : ∃ x, ls.getD q .nil = x := ⟨_, rfl⟩
          rw [hx] at e0 e1 e2 hlo hsp1 hen HLK
          obtain ⟨fr, to, dl, op⟩ := x
          simp only at e0 e1 e2 hlo hen
          obtain ⟨oa', ocap, rfl, _⟩ := hsp1.form
          obtain ⟨f, rfl⟩ : ∃ f : Nat, fr = f := ⟨fr.toNat, by omega⟩
          obtain ⟨g, rfl⟩ : ∃ g : Nat, to = g := ⟨to.toNat, by omega⟩
          have HFR : Hid (frN ls q = f) := Lib.hid (by unfold frN; rw [HLK.out]; simp)
          have HTO : Hid (toN ls q = g) := Lib.hid (by unfold toN; rw [HLK.out]; simp)
          have HDL : Hid ((lkA ls q).dl = dl) := Lib.hid (by rw [HLK.out])
          have hfl : f < j := by omega
          have hgl : g < j := by omega
          have hfi : (f : Int) < j := by omega
          have hgi : (g : Int) < j := by omega
          have hf0 : (0 : Int) ≤ f := by omega
          have hg0 : (0 : Int) ≤ g := by omega
          obtain ⟨lg, hlg⟩ : ∃ y, at0 d g = y := ⟨_, rfl⟩
          obtain ⟨lf, hlf⟩ : ∃ y, at0 d f = y := ⟨_, rfl⟩
          have HLG := Lib.hid hlg
          have HLF := Lib.hid hlf
          have HFA := Lib.hid (hF2.out.keep ((Below.refl _ wr).alloc (Nat.le_refl wr.heap.size) (.cells #[.int .i64 f, .int .i64 g, .int .i64 dl, .slice oa' op.length ocap] 27)))
          have HLB := Lib.hid (fun d => leaveO_bd (k := ⟨f, g, dl, op⟩) (t := lf) (x := d))
          have HCL := Lib.hid (fun w' (h : Below wr.heap.size wr w') => rLeave_any ⟨f, g, dl, op⟩ lf _ w' (hsp1.keep h) hlo)
          unfold lkV at HCL
          simp only at HCL
          clear hx
          obtain ⟨x, hx⟩ : ∃ x, leaveO ⟨f, g, dl, op⟩ lf = x := ⟨_, rfl⟩
          have HX : Hid (leaveO (lkA ls q) (at0 d (frN ls q)) = x) := Lib.hid (by rw [HLK.out, HFR.out, HLF.out]; exact hx)
          rw [hx] at HCL HLB
          have HLD : Hid (d.length = j) := Lib.hid (by obtain ⟨_, h⟩ := hI2.out; exact h.la)
          have HKEEP : Hid ((∀ x', 0 ≤ at0 d (frN ls q) → leaveO (lkA ls q) (at0 d (frN ls q)) = some x' → 0 ≤ at0 d (toN ls q) ∧ at0 d (toN ls q) ≤ x' + (lkA ls q).dl) → ∀ i, i < q + 1 → ∃ z z', LeA c z ∧ LeA z' d ∧ ∀ x, 0 ≤ at0 z (frN ls i) → leaveO (lkA ls i) (at0 z (frN ls i)) = some x → 0 ≤ at0 z' (toN ls i) ∧ at0 z' (toN ls i) ≤ x + (lkA ls i).dl) := Lib.hid (fun h i hi => by
            by_cases c' : i = q
            · subst c'; exact ⟨d, d, hLe.out, LeA.refl d, h⟩
            · exact hP.out i (by omega))
          clear c0 c1 c2 c3 hx hsp hen hlf hlg hB hsp1 hlo hb
          obtain ⟨W0, hW0⟩ : ∃ W0, wr.alloc (.cells #[.int .i64 f, .int .i64 g, .int .i64 dl, .slice oa' op.length ocap] 27) = W0 := ⟨_, rfl⟩
          rw [hW0] at HFA
          have hl0 : W0.heap[wr.heap.size]? = some (.cells #[.int .i64 f, .int .i64 g, .int .i64 dl, .slice oa' op.length ocap] 27 (0, 0)) := by rw [← hW0]; exact heap_alloc_new wr _
          have hw0 : Below wr.heap.size wr W0 := by rw [← hW0]; exact (Below.refl _ wr).alloc (Nat.le_refl _) _
          have hws : wr.heap.size < W0.heap.size := (Array.getElem?_eq_some_iff.1 hl0).1
          have HCL2 := Lib.hid (fun w' (h : Below W0.heap.size W0 w') => (HCL.out w' (hw0.trans (h.mono hw0.size))).mono fun e w'' (hh : _ ∧ Below w'.heap.size w' w'') => And.intro hh.1 (h.trans (hh.2.mono h.size)))
          have K0 : Hid (∀ W, Below W0.heap.size W0 W → W.cell? ⟨wr.heap.size, 0, none⟩ = some (.int .i64 f) ∧ W.cell? ⟨wr.heap.size, 1, none⟩ = some (.int .i64 g) ∧ W.cell? ⟨wr.heap.size, 2, none⟩ = some (.int .i64 dl) ∧ W.cell? ⟨wr.heap.size, 3, none⟩ = some (.slice oa' op.length ocap) ∧
              W.cell? ⟨A, f, none⟩ = some (.int .i64 lf) ∧ W.cell? ⟨A, g, none⟩ = some (.int .i64 lg) ∧ W.frozen? ⟨A, g, none⟩ = false) := Lib.hid (fun W h => by
            have hF := (HFA.out.keep h).lt
            have hl := (h.block _ hws).trans hl0
            exact ⟨cellH hl 0, cellH hl 1, cellH hl 2, cellH hl 3, (cellH hF.ha f).trans (by rw [intsA_at _ _ (by rw [HLD.out]; exact hfl), ← HLF.out]; rfl), (cellH hF.ha g).trans (by rw [intsA_at _ _ (by rw [HLD.out]; exact hgl), ← HLG.out]; rfl), freeH hF.ha g⟩)
          have HL0 := Lib.hid hl0; have HWS := Lib.hid hws; have HW0 := Lib.hid hW0
          have hAf : wr.cell? ⟨A, f, none⟩ = some (.int .i64 lf) := (cellH hF2.out.lt.ha f).trans (by rw [intsA_at _ _ (by rw [HLD.out]; exact hfl), ← HLF.out]; rfl)
          have hAs : A < wr.heap.size := hF2.out.lt.lie.2
          have hAne : A ≠ wr.heap.size := by omega
          clear hl0 hw0 hws HCL hW0
          by_cases hlf0 : lf < 0
          · have HN := Lib.hid (HKEEP.out (fun x' h0 _ => by rw [HFR.out, HLF.out] at h0; omega))
            go_wp2_with fail
            go_roundw
            case rel => exact ⟨q + 1, d, HQL.out, by go_num, by have := HFA.out; rw [← HW0.out] at this; exact Lib.hid this, hI2, hLe, HN⟩
            case measure => have := HQL.out; simp [intOf]; omega
          have g0 : decide (lf < 0) = false := decide_eq_false hlf0
          have HLF0 := Lib.hid hlf0
          clear hlf0
          cases x with
          | none =>
            have HN := Lib.hid (HKEEP.out (fun x' h0 hx => by rw [HX.out] at hx; cases hx))
            unfold optV at HCL2
            go_wp2_with fail
            rw [HW0.out]
            refine wp_region_turn 11 (fun _ w' => Below W0.heap.size W0 w') (by kernel_rfl) (by kernel_rfl) ((Below.refl _ W0).drew) ?_
            simp only [List.take_succ_cons, List.take_zero, List.drop_succ_cons, List.drop_zero]
            iterate 11
              (first
                | (apply turnC_step (by rfl); (intro w' hw'; go_simp; exact HCL2.out w' hw'))
                | (apply turnC_step (by rfl); (intro w' hw'; obtain ⟨q0, q1, q2, q3, q4, q5, q6⟩ := K0.out w' hw'; go_simp; first | exact ⟨hw', rfl⟩ | exact rfl)))
              simp only [Act.put, List.setIfInBounds_toArray, List.set_cons_succ, List.set_cons_zero]
            intro listed w4 _ hw4
            have HF4 := Lib.hid (HFA.out.keep hw4)
            clear hw4
            go_wp2_with fail
            go_quiet (fail)
            go_wp2_with fail
            go_roundw
            case rel => exact ⟨q + 1, d, HQL.out, by go_num, Lib.hid (EtS.keep HF4.out (below_drewN (Below.refl _ _) _)), hI2, hLe, HN⟩
            case measure => have := HQL.out; simp [intOf]; omega
          | some y =>
            obtain ⟨d1, d2, d3, d4⟩ := HLB.out y rfl
            simp only at d3 d4
            unfold optV at HCL2
            clear HLB
            have hwr : IntKind.i64.wrap (y + dl) = y + dl := IntWalk.i64_in _ (by omega)
            by_cases hup : lg < 0 ∨ y + dl < lg
            · have HI3 : Hid (∃ by', Inv j ls m t (d.set g (y + dl)) by') := Lib.hid (by
                obtain ⟨by', h⟩ := hI2.out
                have := h.relax HEO.out HQL.out (by rw [HFR.out, HLF.out]; have := HLF0.out; omega) HX.out (by rw [HTO.out, HLG.out, HDL.out]; exact hup)
                rw [HTO.out, HDL.out] at this; exact ⟨_, this⟩)
              have HLD2 : Hid (LeA d (d.set g (y + dl))) := Lib.hid (fun s hs => by
                rw [at0_set _ _ _ _ (by rw [HLD.out]; exact hgl)]
                by_cases c' : s = g
                · subst c'; rw [if_pos rfl]; rw [HLG.out] at hs ⊢; omega
                · rw [if_neg c']; exact ⟨hs, Int.le_refl _⟩)
              have HN : Hid (∀ i, i < q + 1 → ∃ z z', LeA c z ∧ LeA z' (d.set g (y + dl)) ∧ ∀ x, 0 ≤ at0 z (frN ls i) → leaveO (lkA ls i) (at0 z (frN ls i)) = some x → 0 ≤ at0 z' (toN ls i) ∧ at0 z' (toN ls i) ≤ x + (lkA ls i).dl) := Lib.hid (fun i hi => by
                by_cases c' : i = q
                · subst c'
                  refine ⟨d, d.set g (y + dl), hLe.out, LeA.refl _, fun x' h0 hx => ?_⟩
                  rw [HX.out] at hx; cases hx
                  rw [HTO.out, HDL.out, at0_set _ _ _ _ (by rw [HLD.out]; exact hgl), if_pos rfl]; omega
                · obtain ⟨z, z', p1, p2, p3⟩ := hP.out i (by omega)
                  exact ⟨z, z', p1, p2.trans HLD2.out, p3⟩)
              have HLE := Lib.hid (hLe.out.trans HLD2.out)
              rcases hup with hup | hup
              · go_wp2_with fail
                rw [HW0.out]
                refine wp_region_turn 11 (fun _ w' => Below W0.heap.size W0 w') (by kernel_rfl) (by kernel_rfl) ((Below.refl _ W0).drew) ?_
                simp only [List.take_succ_cons, List.take_zero, List.drop_succ_cons, List.drop_zero]
                iterate 11
                  (first
                    | (apply turnC_step (by rfl); (intro w' hw'; go_simp; exact HCL2.out w' hw'))
                    | (apply turnC_step (by rfl); (intro w' hw'; obtain ⟨q0, q1, q2, q3, q4, q5, q6⟩ := K0.out w' hw'; go_simp; first | exact ⟨hw', rfl⟩ | exact rfl)))
                  simp only [Act.put, List.setIfInBounds_toArray, List.set_cons_succ, List.set_cons_zero]
                intro listed w4 _ hw4
                obtain ⟨p0, p1, p2, p3, p4, p5, p6⟩ := K0.out w4 hw4
                have HF5 := Lib.hid ((HFA.out.keep hw4).setA g (y + dl))
                clear hw4
                go_wp2_with fail
                go_quiet (fail)
                go_wp2_with fail
                go_roundw
                case rel => exact ⟨q + 1, d.set g (y + dl), HQL.out, by go_num, Lib.hid (EtS.keep HF5.out (below_drewN (Below.refl _ _) _)), HI3, HLE, HN⟩
                case measure => have := HQL.out; simp [intOf]; omega
              · have g3 : decide (lg < 0) = false := decide_eq_false (by omega)
                go_wp2_with fail
                rw [HW0.out]
                refine wp_region_turn 11 (fun _ w' => Below W0.heap.size W0 w') (by kernel_rfl) (by kernel_rfl) ((Below.refl _ W0).drew) ?_
                simp only [List.take_succ_cons, List.take_zero, List.drop_succ_cons, List.drop_zero]
                iterate 11
                  (first
                    | (apply turnC_step (by rfl); (intro w' hw'; go_simp; exact HCL2.out w' hw'))
                    | (apply turnC_step (by rfl); (intro w' hw'; obtain ⟨q0, q1, q2, q3, q4, q5, q6⟩ := K0.out w' hw'; go_simp; first | exact ⟨hw', rfl⟩ | exact rfl)))
                  simp only [Act.put, List.setIfInBounds_toArray, List.set_cons_succ, List.set_cons_zero]
                intro listed w4 _ hw4
                have HF5 := Lib.hid ((HFA.out.keep hw4).setA g (y + dl))
                obtain ⟨p0, p1, p2, p3, p4, p5, p6⟩ := K0.out w4 hw4
                clear hw4
                go_wp2_with fail
                go_quiet (fail)
                go_wp2_with fail
                go_roundw
                case rel => exact ⟨q + 1, d.set g (y + dl), HQL.out, by go_num, Lib.hid (EtS.keep HF5.out (below_drewN (Below.refl _ _) _)), HI3, HLE, HN⟩
                case measure => have := HQL.out; simp [intOf]; omega
            · have g3 : decide (lg < 0) = false := decide_eq_false (by omega)
              have g4 : decide (y + dl < lg) = false := decide_eq_false (by omega)
              have HN := Lib.hid (HKEEP.out (fun x' h0 hx => by
                rw [HX.out] at hx; cases hx
                rw [HTO.out, HLG.out, HDL.out]; omega))
              go_wp2_with fail
              rw [HW0.out]
              refine wp_region_turn 11 (fun _ w' => Below W0.heap.size W0 w') (by kernel_rfl) (by kernel_rfl) ((Below.refl _ W0).drew) ?_
              simp only [List.take_succ_cons, List.take_zero, List.drop_succ_cons, List.drop_zero]
              iterate 11
                (first
                  | (apply turnC_step (by rfl); (intro w' hw'; go_simp; exact HCL2.out w' hw'))
                  | (apply turnC_step (by rfl); (intro w' hw'; obtain ⟨q0, q1, q2, q3, q4, q5, q6⟩ := K0.out w' hw'; go_simp; first | exact ⟨hw', rfl⟩ | exact rfl)))
                simp only [Act.put, List.setIfInBounds_toArray, List.set_cons_succ, List.set_cons_zero]
              intro listed w4 _ hw4
              have HF4 := Lib.hid (HFA.out.keep hw4)
              obtain ⟨p0, p1, p2, p3, p4, p5, p6⟩ := K0.out w4 hw4
              clear hw4
              go_wp2_with fail
              go_quiet (fail)
              go_wp2_with fail
              go_roundw
              case rel => exact ⟨q + 1, d, HQL.out, by go_num, Lib.hid (EtS.keep HF4.out (below_drewN (Below.refl _ _) _)), hI2, hLe, HN⟩
              case measure => have := HQL.out; simp [intOf]; omega
        · obtain rfl : q = ls.length := by omega
          have HRR := Lib.hid (RK.round hR.out hLe.out hP.out)
          go_wp2_with fail
          go_roundw
          case rel => exact ⟨r + 1, d, by have := HRJ.out; omega, by go_num, hF2, hI2, HRR⟩
          case measure => have := HRJ.out; simp [intOf]; omega
    · obtain rfl : r = j + 1 := by omega
      obtain ⟨by', hI'⟩ := hI.out
      have HSH := Lib.hid (RK.shut HEO.out hI' (fun vs s m hw hl => hR.out vs s m hw (by omega)))
      have HII := Lib.hid hI'
      have n1 := hF.out.res
      have r0 := cellH n1 0
      have r1 := cellH n1 1
      have f0 := freeH n1 0
      have f1 := freeH n1 1
      simp at r0 r1
      have HR2 : Hid (((wr.setCell ⟨w.heap.size + 1, 0, none⟩ (.slice (some ⟨A, 0, none⟩) j j)).setCell ⟨w.heap.size + 1, 1, none⟩ (.int .i64 0)).heap[w.heap.size + 1]? = some (.cells #[.slice (some ⟨A, 0, none⟩) j j, .int .i64 0] 39 (0, 0))) := Lib.hid (set_pair n1)
      have HB2 := Lib.hid ((hF.out.lt.below.setCell (p := ⟨w.heap.size + 1, 0, none⟩) (by simp) (.slice (some ⟨A, 0, none⟩) j j)).setCell (p := ⟨w.heap.size + 1, 1, none⟩) (by simp) (.int .i64 0))
      have HIN : Hid (INRow ((wr.setCell ⟨w.heap.size + 1, 0, none⟩ (.slice (some ⟨A, 0, none⟩) j j)).setCell ⟨w.heap.size + 1, 1, none⟩ (.int .i64 0)) (.slice (some ⟨A, 0, none⟩) j j) c) := Lib.hid (by
        have hf := hF.out.far
        have hh : ((wr.setCell ⟨w.heap.size + 1, 0, none⟩ (.slice (some ⟨A, 0, none⟩) j j)).setCell ⟨w.heap.size + 1, 1, none⟩ (.int .i64 0)).heap[A]? = some (.cells (intsA c) 3 (0, 0)) := by
          rw [heap_other _ _ _ _ _ (by omega), heap_other _ _ _ _ _ (by omega)]; exact hF.out.lt.ha
        exact .inr ⟨A, 0, j, by rw [hI'.la], (Array.getElem?_eq_some_iff.1 hh).1, fun i hi => by rw [Nat.zero_add, cellH hh i]; exact intsA_at _ _ hi⟩)
      have hrn : ¬ ((j : Int) + 1 ≤ j) := by omega
      clear hI' n1
      go_wp2_with fail
      refine bodyPost_ret (rE_results rfl HR2.out) rfl ?_
      exact ⟨_, by rw [HE.out], HB2.out, fun h => absurd HE.out h, fun _ => ⟨c, by', HIN.out, by simpa using HII.out, HSH.out⟩⟩
end Go.Proofs.Ytiboolbndfhomaa
