/- Latest of package relay. -/
import Derived.Test.YtiboolbndfhomaaNB3
set_option linter.unusedVariables false
set_option linter.unusedSimpArgs false
namespace Go.Proofs.Ytiboolbndfhomaa
open Go.RowKit

/-- What Latest returns. -/
def LateOut (st : Int) (ls : List Lk) (b t : Int) (w : World) (e : Ending) (w' : World) : Prop :=
  ∃ v, e = .returned (.tuple #[v, .int .i64 (startE st ls b t)]) ∧ Below w.heap.size w w' ∧ (startE st ls b t ≠ 0 → v = .slice none 0 0) ∧
    (startE st ls b t = 0 → ∃ at', INRow w' v at' ∧ InvL st.toNat ls b.toNat t at' ∧ ShutL ls at')
set_option maxRecDepth 100000 in
set_option maxHeartbeats 8000000 in
theorem Latest_any (st : Int) (o : Value) (ls : List Lk) (a t : Int) (w : World) (hv : NRow w o ls) :
    Calls Try.prog 20 #[ntV st o, .int .i64 a, .int .i64 t] w fun e w' => LateOut st ls a t w e w' := by
  have HC := Lib.hid (fun w' (h : Below w.heap.size w w') => checkStart_any st o ls a t w' (hv.keep h))
  obtain ⟨oa, oc, rfl, hlc⟩ := hv.row.form
  have HA := Lib.hid (fun W => net_cells w st (.slice oa ls.length oc) (W := W))
  have HB0 := Lib.hid ((Below.refl _ w).alloc (Nat.le_refl w.heap.size) (.cells #[.int .i64 st, .slice oa ls.length oc] 24))
  have HLC := Lib.hid hlc
  have HOP := Lib.hid hv.op
  clear hv hlc
  unfold ntV at HC ⊢
  by_cases hE : startE st ls a t = 0
  case neg =>
    have HE := Lib.hid hE
    have hz : (startE st ls a t != 0) = true := by simpa using hE
    obtain ⟨q, hq⟩ : ∃ q, startE st ls a t = q := ⟨_, rfl⟩
    have HQ := Lib.hid hq
    rw [hq] at HC hz
    clear hE hq
    go_enter Try.func20, Try.ntmps20
    go_wp2_with fail
    refine (HC.out _ HB0.out).mono ?_
    rintro e w1 ⟨rfl, hb⟩
    have HB1 := Lib.hid (HB0.out.trans (hb.mono HB0.out.size))
    clear hb
    go_wp2_with fail
    go_ret2
    exact ⟨.slice none 0 0, by rw [HQ.out]; rfl, HB1.out, fun _ => rfl, fun h => absurd h HE.out⟩
  obtain ⟨hne, a0, a1, t0, t1⟩ := startE_ok hE
  obtain ⟨s1, s10, l40, hks⟩ := netE_ok hne
  obtain ⟨m, rfl⟩ : ∃ m : Nat, a = m := ⟨a.toNat, by omega⟩
  obtain ⟨j, rfl⟩ : ∃ s : Nat, st = s := ⟨st.toNat, by omega⟩
  have HKS := Lib.hid hks
  have HEO : Hid (EndsOk j ls) := Lib.hid (fun i hi => by
    have h := endsB_ok (hks _ (lk_mem hi)).1
    unfold frN toN lkA
    omega)
  have HE := Lib.hid hE
  have hj10 : j ≤ 10 := by omega
  have hmj : m < j := by omega
  have hmi : (m : Int) < j := by omega
  have hm0 : (0 : Int) ≤ m := by omega
  have hm1 := mk_ints j hj10
  rw [hE] at HC
  clear hE hne hks a0 a1 s1 s10
  go_enter Try.func20, Try.ntmps20
  go_wp2_with fail
  refine (HC.out _ HB0.out).mono ?_
  rintro e w1 ⟨rfl, hb⟩
  have hnet := (hb.block w.heap.size (by simp)).trans (heap_alloc_new w _)
  obtain ⟨c0, c1, hlt, hb1⟩ := HA.out w1 hb
  have hne1 : w.heap.size ≠ w1.heap.size := by omega
  have HS0 : Hid (LtS w (w1.alloc (.cells (intsA (List.replicate j 0)) 3)) j (.slice oa ls.length oc) w1.heap.size (atJ j 0)) := Lib.hid
    ⟨hb1.alloc hb1.size _, (gNe _ _ _ hne1).trans hnet, ⟨hlt, by simp⟩, by rw [gAt _ _ _ rfl, atJ_zero], by rw [atJ_len]⟩
  clear hb hb1 hnet
  go_wp2_with fail
  obtain ⟨A, hA⟩ : ∃ A, w1.heap.size = A := ⟨_, rfl⟩
  rw [hA] at HS0
  rw [hA]
  clear hA
  go_loopw [10, 28] (fun _ i wr => ∃ k : Nat, k ≤ j ∧ i = .int .i64 k ∧ Hid (LtS w wr j (.slice oa ls.length oc) A (atJ j k))) (fun _ i _ => j - (intOf i).toNat)
  case atStart => exact ⟨0, Nat.zero_le _, rfl, HS0⟩
  case round =>
    obtain ⟨k, hk, rfl, hF⟩ := hrel
    clear c0 c1 hm1
    by_cases hkl : k < j
    · have hki : (k : Int) < j := by omega
      have hk0 : (0 : Int) ≤ k := by omega
      have hA0 : wr.cell? ⟨A, k, none⟩ = some (.int .i64 ((atJ j k).getD k 0)) := (cellH hF.out.ha k).trans (intsA_at _ _ (by rw [atJ_len]; exact hkl))
      have hA1 : wr.frozen? ⟨A, k, none⟩ = false := freeH hF.out.ha k
      have HF2 : Hid (LtS w (wr.setCell ⟨A, k, none⟩ (.int .i64 (-1))) j (.slice oa ls.length oc) A (atJ j (k + 1))) := Lib.hid (by
        have := hF.out.setA k (-1); rwa [atJ_set _ _ hkl] at this)
      go_wp2_with fail
      go_roundw
      case rel => exact ⟨k + 1, by omega, by go_num, HF2⟩
      case measure => simp [intOf]; omega
    · obtain rfl : k = j := by omega
      have hA0 : wr.cell? ⟨A, m, none⟩ = some (.int .i64 ((atJ k k).getD m 0)) := (cellH hF.out.ha m).trans (intsA_at _ _ (by rw [atJ_len]; exact hmj))
      have hA1 : wr.frozen? ⟨A, m, none⟩ = false := freeH hF.out.ha m
      have HF2 : Hid (LtS w (wr.setCell ⟨A, m, none⟩ (.int .i64 t)) k (.slice oa ls.length oc) A ((List.replicate k (-1)).set m t)) := Lib.hid (by
        have := hF.out.setA m t; rwa [atJ_full] at this)
      have HI0 := Lib.hid (InvL.start (ls := ls) hmj t0 t1)
      clear hF
      go_wp2_with fail
      go_loopw [11] (fun g wr => ∃ (b : Bool) (at' : List Int), g = .bool b ∧ Hid (LtS w wr k (.slice oa ls.length oc) A at') ∧ Hid (InvL k ls m t at') ∧ Hid (b = false → ShutL ls at')) (fun g wr => 2 * mL wr A + (match g with | .bool true => 1 | _ => 0))
      case atStart => exact ⟨true, _, rfl, HF2, HI0, Lib.hid (fun h => by cases h)⟩
      case round =>
        obtain ⟨b, at', rfl, hF, hI, hSh⟩ := hrel
        clear hA0 hA1
        cases b
        · have hIN : INRow wr (.slice (some ⟨A, 0, none⟩) k k) at' :=
            .inr ⟨A, 0, k, by rw [hI.out.la], hF.out.lie.2, fun i hi => by rw [Nat.zero_add, cellH hF.out.ha i]; exact intsA_at _ _ hi⟩
          have HIN := Lib.hid hIN
          clear hIN
          go_wp2_with fail
          go_ret2
          exact ⟨_, by rw [HE.out]; rfl, hF.out.below, fun h => absurd HE.out h, fun _ => ⟨at', HIN.out, by simpa using hI.out, hSh.out (by first | rfl | trivial)⟩⟩
        · have hN1 : wr.cell? ⟨w.heap.size, 1, none⟩ = some (.slice oa ls.length oc) := cellH hF.out.net 1
          go_wp2_with fail
          go_loopw [11, 43] (fun g i ws => ∃ (q : Nat) (b : Bool) (at2 : List Int), q ≤ ls.length ∧ i = .int .i64 q ∧ g = .bool b ∧ Hid (LtS w ws k (.slice oa ls.length oc) A at2) ∧ Hid (InvL k ls m t at2) ∧ Hid ((b = false → at2 = at' ∧ ∀ i, i < q → ShutLAt ls at' i) ∧ (b = true → sumL at2 < sumL at'))) (fun _ i _ => ls.length - (intOf i).toNat)
          case atStart => exact ⟨0, false, at', Nat.zero_le _, rfl, rfl, hF, hI, Lib.hid ⟨fun _ => ⟨rfl, fun i hi => by omega⟩, fun h => by cases h⟩⟩
          case round =>
            obtain ⟨q, b2, at2, hq, rfl, rfl, hF2, hI2, hP⟩ := hrel
            clear hN1
            by_cases hql : q < ls.length
            · obtain ⟨b, off, rfl, hb, c0, c1, c2, ov, c3, hsp⟩ := HLC.out q hql
              have hB := hF2.out.below
              have hqi : (q : Int) < ls.length := by omega
              have hq0 : (0 : Int) ≤ q := by omega
              have e0 := (hB.cell (p := ⟨b, _, none⟩) hb).trans c0
              have e1 := (hB.cell (p := ⟨b, _, none⟩) hb).trans c1
              have e2 := (hB.cell (p := ⟨b, _, none⟩) hb).trans c2
              have e3 := (hB.cell (p := ⟨b, _, none⟩) hb).trans c3
              have hlo := HOP.out _ (lk_mem hql)
              have hen := endsB_ok (HKS.out _ (lk_mem hql)).1
              have hsp1 := hsp.keep hB
              have HLK : Hid (lkA ls q = ls.getD q .nil) := Lib.hid rfl
              obtain ⟨x, hx⟩ : ∃ x, ls.getD q .nil = x := ⟨_, rfl⟩
              rw [hx] at e0 e1 e2 hlo hsp1 hen HLK
              obtain ⟨fr, to, dl, op⟩ := x
              simp only at e0 e1 e2 hlo hen
              obtain ⟨oa', ocap, rfl, _⟩ := hsp1.form
              obtain ⟨f, rfl⟩ : ∃ f : Nat, fr = f := ⟨fr.toNat, by omega⟩
              obtain ⟨g, rfl⟩ : ∃ g : Nat, to = g := ⟨to.toNat, by omega⟩
              have HFR : Hid (frN ls q = f) := Lib.hid (by unfold frN; rw [HLK.out]; simp)
              have HTO : Hid (toN ls q = g) := Lib.hid (by unfold toN; rw [HLK.out]; simp)
              have hfl : f < k := by omega
              have hgl : g < k := by omega
              have hfi : (f : Int) < k := by omega
              have hgi : (g : Int) < k := by omega
              have hf0 : (0 : Int) ≤ f := by omega
              have hg0 : (0 : Int) ≤ g := by omega
              obtain ⟨lg, hlg⟩ : ∃ y, at0 at2 g = y := ⟨_, rfl⟩
              obtain ⟨lf, hlf⟩ : ∃ y, at0 at2 f = y := ⟨_, rfl⟩
              have HLG := Lib.hid hlg
              have HLF := Lib.hid hlf
              have HFA := Lib.hid (hF2.out.keep ((Below.refl _ wr).alloc (Nat.le_refl wr.heap.size) (.cells #[.int .i64 f, .int .i64 g, .int .i64 dl, .slice oa' op.length ocap] 27)))
              have HLB := Lib.hid (fun d => lastO_bd (k := ⟨f, g, dl, op⟩) (t := lg) (x := d))
              have HCL := Lib.hid (fun w' (h : Below wr.heap.size wr w') => Last_any ⟨f, g, dl, op⟩ lg _ w' (hsp1.keep h) hlo)
              unfold lkV at HCL
              simp only at HCL
              obtain ⟨x, hx⟩ : ∃ x, lastO ⟨f, g, dl, op⟩ lg = x := ⟨_, rfl⟩
              have HX : Hid (lastO (lkA ls q) (at0 at2 (toN ls q)) = x) := Lib.hid (by rw [HLK.out, HTO.out, HLG.out]; exact hx)
              rw [hx] at HCL HLB
              clear c0 c1 c2 c3 hx hsp hen hlf hlg hB hsp1 hlo
              obtain ⟨W0, hW0⟩ : ∃ W0, wr.alloc (.cells #[.int .i64 f, .int .i64 g, .int .i64 dl, .slice oa' op.length ocap] 27) = W0 := ⟨_, rfl⟩
              rw [hW0] at HFA
              have hl0 : W0.heap[wr.heap.size]? = some (.cells #[.int .i64 f, .int .i64 g, .int .i64 dl, .slice oa' op.length ocap] 27 (0, 0)) := by rw [← hW0]; exact heap_alloc_new wr _
              have hw0 : Below wr.heap.size wr W0 := by rw [← hW0]; exact (Below.refl _ wr).alloc (Nat.le_refl _) _
              have hws : wr.heap.size < W0.heap.size := (Array.getElem?_eq_some_iff.1 hl0).1
              have HCL2 := Lib.hid (fun w' (h : Below W0.heap.size W0 w') => (HCL.out w' (hw0.trans (h.mono hw0.size))).mono fun e w'' (hh : _ ∧ Below w'.heap.size w' w'') => And.intro hh.1 (h.trans (hh.2.mono h.size)))
              have K0 : Hid (∀ W, Below W0.heap.size W0 W → W.cell? ⟨wr.heap.size, 0, none⟩ = some (.int .i64 f) ∧ W.cell? ⟨wr.heap.size, 1, none⟩ = some (.int .i64 g) ∧ W.cell? ⟨wr.heap.size, 2, none⟩ = some (.int .i64 dl) ∧ W.cell? ⟨wr.heap.size, 3, none⟩ = some (.slice oa' op.length ocap) ∧
                  W.cell? ⟨A, g, none⟩ = some (.int .i64 lg)) := Lib.hid (fun W h => by
                have hF := HFA.out.keep h
                have hl := (h.block _ hws).trans hl0
                exact ⟨cellH hl 0, cellH hl 1, cellH hl 2, cellH hl 3, (cellH hF.ha g).trans (by rw [intsA_at _ _ (by rw [hI2.out.la]; exact hgl), ← HLG.out]; rfl)⟩)
              have HL0 := Lib.hid hl0; have HWS := Lib.hid hws; have HW0 := Lib.hid hW0
              clear hl0 hw0 hws HCL hW0
              cases x with
              | none =>
                have HN : Hid (ShutLAt ls at2 q) := Lib.hid (fun d hd => by rw [HX.out] at hd; cases hd)
                unfold optV at HCL2
                go_wp2_with fail
                rw [HW0.out]
                refine wp_region_turn 11 (fun _ w' => Below W0.heap.size W0 w') (by kernel_rfl) (by kernel_rfl) ((Below.refl _ W0).drew) ?_
                simp only [List.take_succ_cons, List.take_zero, List.drop_succ_cons, List.drop_zero]
                (apply turnC_step (by rfl); (intro w' hw'; obtain ⟨q0, q1, q2, q3, q4⟩ := K0.out w' hw'; go_simp; first | exact ⟨hw', rfl⟩ | exact rfl))
                simp only [Act.put, List.setIfInBounds_toArray, List.set_cons_succ, List.set_cons_zero]
                (apply turnC_step (by rfl); (intro w' hw'; obtain ⟨q0, q1, q2, q3, q4⟩ := K0.out w' hw'; go_simp; first | exact ⟨hw', rfl⟩ | exact rfl))
                simp only [Act.put, List.setIfInBounds_toArray, List.set_cons_succ, List.set_cons_zero]
                (apply turnC_step (by rfl); (intro w' hw'; obtain ⟨q0, q1, q2, q3, q4⟩ := K0.out w' hw'; go_simp; first | exact ⟨hw', rfl⟩ | exact rfl))
                simp only [Act.put, List.setIfInBounds_toArray, List.set_cons_succ, List.set_cons_zero]
                (apply turnC_step (by rfl); (intro w' hw'; obtain ⟨q0, q1, q2, q3, q4⟩ := K0.out w' hw'; go_simp; first | exact ⟨hw', rfl⟩ | exact rfl))
                simp only [Act.put, List.setIfInBounds_toArray, List.set_cons_succ, List.set_cons_zero]
                (apply turnC_step (by rfl); (intro w' hw'; obtain ⟨q0, q1, q2, q3, q4⟩ := K0.out w' hw'; go_simp; first | exact ⟨hw', rfl⟩ | exact rfl))
                simp only [Act.put, List.setIfInBounds_toArray, List.set_cons_succ, List.set_cons_zero]
                (apply turnC_step (by rfl); (intro w' hw'; obtain ⟨q0, q1, q2, q3, q4⟩ := K0.out w' hw'; go_simp; first | exact ⟨hw', rfl⟩ | exact rfl))
                simp only [Act.put, List.setIfInBounds_toArray, List.set_cons_succ, List.set_cons_zero]
                (apply turnC_step (by rfl); (intro w' hw'; go_simp; exact HCL2.out w' hw'))
                simp only [Act.put, List.setIfInBounds_toArray, List.set_cons_succ, List.set_cons_zero]
                (apply turnC_step (by rfl); (intro w' hw'; obtain ⟨q0, q1, q2, q3, q4⟩ := K0.out w' hw'; go_simp; first | exact ⟨hw', rfl⟩ | exact rfl))
                simp only [Act.put, List.setIfInBounds_toArray, List.set_cons_succ, List.set_cons_zero]
                (apply turnC_step (by rfl); (intro w' hw'; obtain ⟨q0, q1, q2, q3, q4⟩ := K0.out w' hw'; go_simp; first | exact ⟨hw', rfl⟩ | exact rfl))
                simp only [Act.put, List.setIfInBounds_toArray, List.set_cons_succ, List.set_cons_zero]
                (apply turnC_step (by rfl); (intro w' hw'; obtain ⟨q0, q1, q2, q3, q4⟩ := K0.out w' hw'; go_simp; first | exact ⟨hw', rfl⟩ | exact rfl))
                simp only [Act.put, List.setIfInBounds_toArray, List.set_cons_succ, List.set_cons_zero]
                (apply turnC_step (by rfl); (intro w' hw'; obtain ⟨q0, q1, q2, q3, q4⟩ := K0.out w' hw'; go_simp; first | exact ⟨hw', rfl⟩ | exact rfl))
                simp only [Act.put, List.setIfInBounds_toArray, List.set_cons_succ, List.set_cons_zero]
                intro listed w4 _ hw4
                have HF4 := Lib.hid (HFA.out.keep hw4)
                clear hw4
                go_wp2_with fail
                go_roundw
                case rel => exact ⟨q + 1, b2, at2, by omega, by go_num, rfl, HF4, hI2, Lib.hid ⟨fun h => by
                  obtain ⟨q1, q2⟩ := hP.out.1 h
                  refine ⟨q1, fun i hi => ?_⟩
                  by_cases c : i = q
                  · subst c; rw [← q1]; exact HN.out
                  · exact q2 i (by omega), hP.out.2⟩⟩
                case measure => simp [intOf]; omega
              | some d =>
                obtain ⟨d1, d2, d3, d4⟩ := HLB.out d rfl
                simp only at d2 d3 d4
                unfold optV at HCL2
                clear HLB
                go_wp2_with fail
                rw [HW0.out]
                refine wp_region_turn 11 (fun _ w' => Below W0.heap.size W0 w') (by kernel_rfl) (by kernel_rfl) ((Below.refl _ W0).drew) ?_
                simp only [List.take_succ_cons, List.take_zero, List.drop_succ_cons, List.drop_zero]
                (apply turnC_step (by rfl); (intro w' hw'; obtain ⟨q0, q1, q2, q3, q4⟩ := K0.out w' hw'; go_simp; first | exact ⟨hw', rfl⟩ | exact rfl))
                simp only [Act.put, List.setIfInBounds_toArray, List.set_cons_succ, List.set_cons_zero]
                (apply turnC_step (by rfl); (intro w' hw'; obtain ⟨q0, q1, q2, q3, q4⟩ := K0.out w' hw'; go_simp; first | exact ⟨hw', rfl⟩ | exact rfl))
                simp only [Act.put, List.setIfInBounds_toArray, List.set_cons_succ, List.set_cons_zero]
                (apply turnC_step (by rfl); (intro w' hw'; obtain ⟨q0, q1, q2, q3, q4⟩ := K0.out w' hw'; go_simp; first | exact ⟨hw', rfl⟩ | exact rfl))
                simp only [Act.put, List.setIfInBounds_toArray, List.set_cons_succ, List.set_cons_zero]
                (apply turnC_step (by rfl); (intro w' hw'; obtain ⟨q0, q1, q2, q3, q4⟩ := K0.out w' hw'; go_simp; first | exact ⟨hw', rfl⟩ | exact rfl))
                simp only [Act.put, List.setIfInBounds_toArray, List.set_cons_succ, List.set_cons_zero]
                (apply turnC_step (by rfl); (intro w' hw'; obtain ⟨q0, q1, q2, q3, q4⟩ := K0.out w' hw'; go_simp; first | exact ⟨hw', rfl⟩ | exact rfl))
                simp only [Act.put, List.setIfInBounds_toArray, List.set_cons_succ, List.set_cons_zero]
                (apply turnC_step (by rfl); (intro w' hw'; obtain ⟨q0, q1, q2, q3, q4⟩ := K0.out w' hw'; go_simp; first | exact ⟨hw', rfl⟩ | exact rfl))
                simp only [Act.put, List.setIfInBounds_toArray, List.set_cons_succ, List.set_cons_zero]
                (apply turnC_step (by rfl); (intro w' hw'; go_simp; exact HCL2.out w' hw'))
                simp only [Act.put, List.setIfInBounds_toArray, List.set_cons_succ, List.set_cons_zero]
                (apply turnC_step (by rfl); (intro w' hw'; obtain ⟨q0, q1, q2, q3, q4⟩ := K0.out w' hw'; go_simp; first | exact ⟨hw', rfl⟩ | exact rfl))
                simp only [Act.put, List.setIfInBounds_toArray, List.set_cons_succ, List.set_cons_zero]
                (apply turnC_step (by rfl); (intro w' hw'; obtain ⟨q0, q1, q2, q3, q4⟩ := K0.out w' hw'; go_simp; first | exact ⟨hw', rfl⟩ | exact rfl))
                simp only [Act.put, List.setIfInBounds_toArray, List.set_cons_succ, List.set_cons_zero]
                (apply turnC_step (by rfl); (intro w' hw'; obtain ⟨q0, q1, q2, q3, q4⟩ := K0.out w' hw'; go_simp; first | exact ⟨hw', rfl⟩ | exact rfl))
                simp only [Act.put, List.setIfInBounds_toArray, List.set_cons_succ, List.set_cons_zero]
                (apply turnC_step (by rfl); (intro w' hw'; obtain ⟨q0, q1, q2, q3, q4⟩ := K0.out w' hw'; go_simp; first | exact ⟨hw', rfl⟩ | exact rfl))
                simp only [Act.put, List.setIfInBounds_toArray, List.set_cons_succ, List.set_cons_zero]
                intro listed w4 _ hw4
                have hF4 := HFA.out.keep hw4
                have hl4 := (hw4.block _ HWS.out).trans HL0.out
                have r0 := cellH hl4 0
                have r1 := (cellH hF4.ha f).trans (intsA_at _ _ (by rw [hI2.out.la]; exact hfl))
                rw [show at2.getD f 0 = lf from HLF.out] at r1
                have r2 := freeH hF4.ha f
                have HF4 := Lib.hid hF4
                simp at r0
                clear hw4 hF4 hl4 K0 HCL2
                by_cases hu : lf < d
                · have HI3 : Hid (InvL k ls m t (at2.set f d)) := Lib.hid (by
                    have := hI2.out.relax HEO.out hql HX.out (by rw [HFR.out, HLF.out]; exact hu)
                    rw [HFR.out] at this; exact this)
                  have HSM : Hid (sumL (at2.set f d) < sumL at2) := Lib.hid (sumL_set _ _ _ (by rw [hI2.out.la]; exact hfl) (by
                    rw [HLF.out]; unfold intL; omega))
                  have HF5 := Lib.hid (HF4.out.setA f d)
                  go_wp2_with fail
                  go_roundw
                  case rel => exact ⟨q + 1, true, at2.set f d, by omega, by go_num, rfl, HF5, HI3, Lib.hid ⟨fun h => (by cases h), fun _ => by
                    have := HSM.out
                    cases b2
                    · rw [(hP.out.1 rfl).1] at this; rwa [(hP.out.1 rfl).1]
                    · exact Nat.lt_trans this (hP.out.2 rfl)⟩⟩
                  case measure => simp [intOf]; omega
                · have HN : Hid (ShutLAt ls at2 q) := Lib.hid (fun d' hd => by rw [HX.out] at hd; cases hd; rw [HFR.out, HLF.out]; omega)
                  have g1 : decide (lf < d) = false := decide_eq_false hu
                  go_wp2_with fail
                  go_roundw
                  case rel => exact ⟨q + 1, b2, at2, by omega, by go_num, rfl, HF4, hI2, Lib.hid ⟨fun h => by
                    obtain ⟨q1, q2⟩ := hP.out.1 h
                    refine ⟨q1, fun i hi => ?_⟩
                    by_cases c : i = q
                    · subst c; rw [← q1]; exact HN.out
                    · exact q2 i (by omega), hP.out.2⟩⟩
                  case measure => simp [intOf]; omega
            · obtain rfl : q = ls.length := by omega
              go_wp2_with fail
              go_roundw
              case rel => exact ⟨b2, at2, rfl, hF2, hI2, Lib.hid (fun h => by
                obtain ⟨e, h2⟩ := hP.out.1 h
                rw [e]; exact h2)⟩
              case measure =>
                rw [mL_ints hF2.out.ha, mL_ints hF.out.ha]
                cases b2
                · rw [(hP.out.1 rfl).1]; simp
                · have := hP.out.2 rfl
                  simp only
                  omega
end Go.Proofs.Ytiboolbndfhomaa
