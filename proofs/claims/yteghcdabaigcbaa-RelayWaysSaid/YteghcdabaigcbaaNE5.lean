/- The reference of layer 2: CheckWay. -/
import Derived.Test.YteghcdabaigcbaaNE4
set_option linter.unusedVariables false
set_option linter.unusedSimpArgs false
namespace Go.Proofs.Yteghcdabaigcbaa
open Go.RowKit

set_option maxRecDepth 100000 in
set_option maxHeartbeats 8000000 in
theorem rCheckWay_any (st : Int) (o : Value) (ls : List Lk) (a b t : Int) (v : Value) (l : List Sp) (w : World) (hv : NRow w o ls) (hn : SpRow w v l) (hst : -9223372036854775808 ≤ st ∧ st ≤ 9223372036854775807) :
    Calls Try.prog 25 #[ntV st o, .int .i64 a, .int .i64 b, .int .i64 t, v] w fun e w' => e = .returned (.tuple #[.int .i64 (wayR st ls a b t l).1, .int .i64 (wayR st ls a b t l).2]) ∧ Below w.heap.size w w' := by
  have HC := Lib.hid (fun w' (h : Below w.heap.size w w') => rasked_any st o ls a t w' (hv.keep h) hst)
  obtain ⟨oa, oc, rfl, hlc⟩ := hv.row.form
  obtain ⟨va, vc, rfl, hnc⟩ := hn.form
  have HLC := Lib.hid hlc
  have HNC := Lib.hid hnc
  have HOP := Lib.hid hv.op
  have HA := Lib.hid (fun W => net_cells w st (.slice oa ls.length oc) (W := W))
  have HB0 := Lib.hid ((Below.refl _ w).alloc (Nat.le_refl w.heap.size) (.cells #[.int .i64 st, .slice oa ls.length oc] 24))
  clear hv hlc hnc hn
  unfold ntV at HC ⊢
  by_cases hE : startE st ls a t = 0
  case neg =>
    have HV : Hid (wayR st ls a b t l = (0, startE st ls a t)) := Lib.hid (by
      have h1 : wayE st ls a b t = startE st ls a t := by unfold wayE; rw [if_neg hE]
      unfold wayR; rw [if_neg (by rw [h1]; exact hE), h1])
    have hz : (startE st ls a t != 0) = true := by simpa using hE
    obtain ⟨q, hq⟩ : ∃ q, startE st ls a t = q := ⟨_, rfl⟩
    rw [hq] at HC HV hz
    clear hE hq
    go_enter Try.func25, Try.ntmps25
    go_wp2_with fail
    refine (HC.out _ HB0.out).mono ?_
    rintro e w1 ⟨rfl, hb⟩
    have HB1 := Lib.hid (HB0.out.trans (hb.mono HB0.out.size))
    clear hb
    go_wp2_with fail
    go_ret2
    exact ⟨ret_val' (by rw [HV.out]; rfl), HB1.out⟩
  obtain ⟨hne, a0, a1, t0, t1⟩ := startE_ok hE
  obtain ⟨s1, s10, hl40, hks⟩ := netE_ok hne
  have HKS := Lib.hid hks
  have HWI := Lib.hid (fun w' => rwithin_any b 0 (st - 1) w')
  simp only [inB_st] at HWI
  have hws : IntKind.i64.wrap (st - 1) = st - 1 := IntWalk.i64_in _ (by omega)
  have HWL := Lib.hid (fun x w' => rwithin_any x 0 ((ls.length : Int) - 1) w')
  have hwl : IntKind.i64.wrap ((ls.length : Int) - 1) = (ls.length : Int) - 1 := IntWalk.i64_in _ (by omega)
  have HVE : Hid (wayE st ls a b t = if stB st b = true then 0 else 1) := Lib.hid (by unfold wayE; rw [if_pos hE])
  rw [hE] at HC
  clear hE hne hks
  cases hbs : stB st b
  · have HV : Hid (wayR st ls a b t l = (0, 1)) := Lib.hid (by
      have h1 : wayE st ls a b t = 1 := by rw [HVE.out, hbs]; rfl
      unfold wayR; rw [if_neg (by rw [h1]; decide), h1])
    rw [hbs] at HWI
    clear hbs
    go_enter Try.func25, Try.ntmps25
    go_wp2_with fail
    refine (HC.out _ HB0.out).mono ?_
    rintro e w1 ⟨rfl, hb⟩
    obtain ⟨n0, n1, hlt, hw1⟩ := HA.out w1 hb
    have HB1 := Lib.hid hw1
    clear hb hw1
    go_wp2_with fail
    refine (HWI.out _).mono ?_
    rintro e w2 ⟨rfl, rfl⟩
    go_wp2_with fail
    go_ret2
    exact ⟨ret_val' (by rw [HV.out]; rfl), HB1.out⟩
  have HV0 : Hid (wayR st ls a b t l = if 40 < l.length then ((0, 2) : Int × Int) else match goL ls l a t with
    | some (x, n) => if x = b then (n, 0) else (0, 8)
    | none => (0, 8)) := Lib.hid (by
    have h1 : wayE st ls a b t = 0 := by rw [HVE.out, hbs]; rfl
    show (if wayE st ls a b t = 0 then _ else _) = _
    rw [if_pos h1]
    rfl)
  rw [hbs] at HWI
  clear hbs
  by_cases h1 : 40 < l.length
  · have HV : Hid (wayR st ls a b t l = (0, 2)) := Lib.hid (by rw [HV0.out, if_pos h1])
    have g1 : (40 : Int) < l.length := by omega
    go_enter Try.func25, Try.ntmps25
    go_wp2_with fail
    refine (HC.out _ HB0.out).mono ?_
    rintro e w1 ⟨rfl, hb⟩
    obtain ⟨n0, n1, hlt, hw1⟩ := HA.out w1 hb
    have HB1 := Lib.hid hw1
    clear hb hw1
    go_wp2_with fail
    refine (HWI.out _).mono ?_
    rintro e w2 ⟨rfl, rfl⟩
    go_wp2_with fail
    go_ret2
    exact ⟨ret_val' (by rw [HV.out]; rfl), HB1.out⟩
  have g1 : ¬ (40 : Int) < l.length := by omega
  have HV : Hid (wayR st ls a b t l = match goL ls l a t with
    | some (x, n) => if x = b then (n, 0) else (0, 8)
    | none => (0, 8)) := Lib.hid (by rw [HV0.out, if_neg h1])
  have HVN : Hid (goL ls l a t = none → wayR st ls a b t l = (0, 8)) := Lib.hid (fun h => by rw [HV.out, h])
  clear HV0 h1
  go_enter Try.func25, Try.ntmps25
  go_wp2_with fail
  refine (HC.out _ HB0.out).mono ?_
  rintro e w1 ⟨rfl, hb⟩
  obtain ⟨c0, c1, hlt, hb1⟩ := HA.out w1 hb
  have HB1 := Lib.hid hb1
  have HCN : Hid (∀ W, Below w1.heap.size w1 W → W.cell? ⟨w.heap.size, 1, none⟩ = some (.slice oa ls.length oc)) := Lib.hid (fun W h => (h.cell (p := ⟨w.heap.size, 1, none⟩) hlt).trans c1)
  clear hb hb1
  go_wp2_with fail
  refine (HWI.out _).mono ?_
  rintro e w2 ⟨rfl, rfl⟩
  clear c0 c1
  go_wp2_with fail
  go_loopw [14, 15, 16] (fun p n i wr => ∃ (k : Nat) (x y : Int), k ≤ l.length ∧ i = .int .i64 k ∧ p = .int .i64 x ∧ n = .int .i64 y ∧ Hid (goL ls l a t = goL ls (l.drop k) x y) ∧ Hid (Below w1.heap.size w1 wr)) (fun _ _ i _ => l.length - (intOf i).toNat)
  case atStart => exact ⟨0, a, t, Nat.zero_le _, rfl, rfl, rfl, Lib.hid rfl, Lib.hid (Below.refl _ _)⟩
  case round =>
    obtain ⟨k, x, y, hk, rfl, rfl, rfl, hT, hB⟩ := hrel
    by_cases hkl : k < l.length
    · have HKL := Lib.hid hkl
      obtain ⟨b', off', rfl, hb', d0, d1⟩ := HNC.out k hkl
      have hki : (k : Int) < l.length := by omega
      have hk0 : (0 : Int) ≤ k := by omega
      have hwr : Below w.heap.size w wr := HB1.out.trans (hB.out.mono HB1.out.size)
      have hD : Hid (goL ls (l.drop k) x y = if hopB ls (l.getD k (0, 0)) x y = true then goL ls (l.drop (k + 1)) (ls.getD (l.getD k (0, 0)).1.toNat .nil).to ((l.getD k (0, 0)).2 + (ls.getD (l.getD k (0, 0)).1.toNat .nil).dl) else none) := Lib.hid (by rw [drop_at hkl]; rfl)
      obtain ⟨⟨hl, ht⟩, hh⟩ : ∃ h, l.getD k (0, 0) = h := ⟨_, rfl⟩
      rw [hh] at d0 d1 hD
      simp only at d0 d1 hD
      have HHB : Hid (hopB ls (hl, ht) x y = (decide (0 ≤ hl) && decide (hl < ls.length) && decide ((ls.getD hl.toNat .nil).fr = x) && decide (y ≤ ht) && canB (ls.getD hl.toNat .nil) ht)) := Lib.hid rfl
      have K0 : Hid (∀ W', Below wr.heap.size wr W' → W'.cell? ⟨b', off' + k * 2, none⟩ = some (.int .i64 hl) ∧ W'.cell? ⟨b', off' + k * 2 + 1, none⟩ = some (.int .i64 ht) ∧ W'.cell? ⟨w.heap.size, 1, none⟩ = some (.slice oa ls.length oc)) := Lib.hid (fun W' h => by
        have h2 := hwr.trans (h.mono hwr.size)
        exact ⟨(h2.cell (p := ⟨b', _, none⟩) hb').trans d0, (h2.cell (p := ⟨b', _, none⟩) hb').trans d1, HCN.out W' (hB.out.trans (h.mono hB.out.size))⟩)
      have CW : Hid (∀ w', Below wr.heap.size wr w' → Calls Try.prog 38 #[.int .i64 hl, .int .i64 0, .int .i64 ((ls.length : Int) - 1)] w' fun e w'' => e = .returned (.bool (inB hl 0 ((ls.length : Int) - 1))) ∧ Below wr.heap.size wr w'') := Lib.hid (fun w' h => (HWL.out hl w').mono fun e w'' ⟨he, hh⟩ => ⟨he, hh ▸ h⟩)
      have HWR := Lib.hid hwr
      clear d0 d1 hb' hh hwr
      by_cases p1 : 0 ≤ hl ∧ hl < ls.length
      case neg =>
        have HN : Hid (wayR st ls a b t l = (0, 8)) := Lib.hid (HVN.out (by
          rw [hT.out, hD.out, HHB.out]
          rcases (by omega : hl < 0 ∨ (ls.length : Int) ≤ hl) with h | h
          · rw [decide_eq_false (p := 0 ≤ hl) (by omega)]; rfl
          · rw [decide_eq_false (p := hl < ls.length) (by omega)]; simp))
        have hin : inB hl 0 ((ls.length : Int) - 1) = false := by
          unfold inB
          rcases (by omega : hl < 0 ∨ (ls.length : Int) ≤ hl) with h | h
          · rw [decide_eq_false (p := 0 ≤ hl) (by omega)]; rfl
          · rw [decide_eq_false (p := hl ≤ (ls.length : Int) - 1) (by omega)]; simp
        rw [hin] at CW
        clear hD HHB p1 hin
        go_wp2_with fail
        refine wp_region_turn 10 (fun _ w' => Below wr.heap.size wr w') (by kernel_rfl) (by kernel_rfl) ((Below.refl _ wr).drew) ?_
        simp only [List.take_succ_cons, List.take_zero, List.drop_succ_cons, List.drop_zero]
        iterate 10
          (first
            | (apply turnC_step (by rfl); (intro w' hw'; go_simp; exact CW.out w' hw'))
            | (apply turnC_step (by rfl); (intro w' hw'; obtain ⟨q0, q1, q2⟩ := K0.out w' hw'; go_simp; first | exact ⟨hw', rfl⟩ | exact rfl)))
          simp only [Act.put, List.setIfInBounds_toArray, List.set_cons_succ, List.set_cons_zero]
        intro listed w4 _ hw4
        have HB4 := Lib.hid (HWR.out.trans (hw4.mono HWR.out.size))
        clear hw4
        go_wp2_with fail
        go_ret2
        exact ⟨ret_val' (by rw [HN.out]; rfl), HB4.out⟩
      obtain ⟨p1, p2⟩ := p1
      have hin : inB hl 0 ((ls.length : Int) - 1) = true := by
        unfold inB
        rw [decide_eq_true p1, decide_eq_true (p := hl ≤ (ls.length : Int) - 1) (by omega)]; rfl
      rw [hin] at CW
      obtain ⟨j, rfl⟩ : ∃ j : Nat, hl = j := ⟨hl.toNat, by omega⟩
      have hjl : j < ls.length := by omega
      have hji : (j : Int) < ls.length := by omega
      have hj0 : (0 : Int) ≤ j := by omega
      obtain ⟨b2, off, rfl, hb, c0, c1, c2, ov, c3, hsp⟩ := HLC.out j hjl
      have hlo := HOP.out _ (lk_mem hjl)
      have hsp1 := hsp.keep HWR.out
      have HJ : Hid ((j : Int).toNat = j) := Lib.hid (by omega)
      rw [HJ.out] at hD HHB
      obtain ⟨z, hz⟩ : ∃ z, ls.getD j .nil = z := ⟨_, rfl⟩
      rw [hz] at c0 c1 c2 hD HHB hlo hsp1
      obtain ⟨fr, to, dl, op⟩ := z
      obtain ⟨oa', ocap, rfl, _⟩ := hsp1.form
      simp only at c0 c1 c2 hD HHB hlo
      have HCL := Lib.hid (fun w' (h : Below wr.heap.size wr w') => rleaves_any ⟨fr, to, dl, op⟩ ht _ w' (hsp1.keep h) hlo)
      unfold lkV at HCL
      simp only at HCL
      have KL : Hid (∀ W', Below wr.heap.size wr W' → W'.cell? ⟨b2, off + j * 4, none⟩ = some (.int .i64 fr) ∧ W'.cell? ⟨b2, off + j * 4 + 1, none⟩ = some (.int .i64 to) ∧ W'.cell? ⟨b2, off + j * 4 + 2, none⟩ = some (.int .i64 dl) ∧ W'.cell? ⟨b2, off + j * 4 + 3, none⟩ = some (.slice oa' op.length ocap)) := Lib.hid (fun W' h => by
        have h2 := HWR.out.trans (h.mono HWR.out.size)
        exact ⟨(h2.cell (p := ⟨b2, _, none⟩) hb).trans c0, (h2.cell (p := ⟨b2, _, none⟩) hb).trans c1, (h2.cell (p := ⟨b2, _, none⟩) hb).trans c2, (h2.cell (p := ⟨b2, _, none⟩) hb).trans c3⟩)
      clear c0 c1 c2 c3 hb hz hsp hlo hsp1 HLC hin p1 p2
      go_wp2_with fail
      refine wp_region_turn 10 (fun _ w' => Below wr.heap.size wr w') (by kernel_rfl) (by kernel_rfl) ((Below.refl _ wr).drew) ?_
      simp only [List.take_succ_cons, List.take_zero, List.drop_succ_cons, List.drop_zero]
      iterate 10
        (first
          | (apply turnC_step (by rfl); (intro w' hw'; go_simp; exact CW.out w' hw'))
          | (apply turnC_step (by rfl); (intro w' hw'; obtain ⟨q0, q1, q2⟩ := K0.out w' hw'; go_simp; first | exact ⟨hw', rfl⟩ | exact rfl)))
        simp only [Act.put, List.setIfInBounds_toArray, List.set_cons_succ, List.set_cons_zero]
      intro listed w4 _ hw4
      have HW4 := Lib.hid hw4
      have HB4 := Lib.hid (HWR.out.trans (hw4.mono HWR.out.size))
      have K4 : Hid (∀ W', Below w4.heap.size w4 W' → (W'.cell? ⟨b', off' + k * 2, none⟩ = some (.int .i64 j) ∧ W'.cell? ⟨b', off' + k * 2 + 1, none⟩ = some (.int .i64 ht) ∧ W'.cell? ⟨w.heap.size, 1, none⟩ = some (.slice (some ⟨b2, off, none⟩) ls.length oc)) ∧ W'.cell? ⟨b2, off + j * 4, none⟩ = some (.int .i64 fr) ∧ W'.cell? ⟨b2, off + j * 4 + 1, none⟩ = some (.int .i64 to) ∧ W'.cell? ⟨b2, off + j * 4 + 2, none⟩ = some (.int .i64 dl) ∧ W'.cell? ⟨b2, off + j * 4 + 3, none⟩ = some (.slice oa' op.length ocap)) := Lib.hid (fun W' h => ⟨K0.out W' (HW4.out.trans (h.mono HW4.out.size)), KL.out W' (HW4.out.trans (h.mono HW4.out.size))⟩)
      clear hw4
      have hbn2 : b2 ≠ w4.heap.size := by
        have h := (K4.out w4 (Below.refl _ _)).2.1
        intro e
        rw [e] at h
        simp [World.cell?] at h
      have hbn1 : b' ≠ w4.heap.size := by
        have h := (K4.out w4 (Below.refl _ _)).1.1
        intro e
        rw [e] at h
        simp [World.cell?] at h
      have hbn0 : w.heap.size ≠ w4.heap.size := by
        have h := (K4.out w4 (Below.refl _ _)).1.2.2
        intro e
        rw [e] at h
        simp [World.cell?] at h
      have K5 : Hid (∀ W', W' = w4 ∨ W' = w4.alloc (.cells #[.int .i64 0, .int .i64 0, .int .i64 0, .slice none 0 0] 27) → (W'.cell? ⟨b', off' + k * 2, none⟩ = some (.int .i64 j) ∧ W'.cell? ⟨w.heap.size, 1, none⟩ = some (.slice (some ⟨b2, off, none⟩) ls.length oc)) ∧ W'.cell? ⟨b2, off + j * 4, none⟩ = some (.int .i64 fr) ∧ W'.cell? ⟨b2, off + j * 4 + 1, none⟩ = some (.int .i64 to) ∧ W'.cell? ⟨b2, off + j * 4 + 2, none⟩ = some (.int .i64 dl) ∧ W'.cell? ⟨b2, off + j * 4 + 3, none⟩ = some (.slice oa' op.length ocap)) := Lib.hid (fun W' h => by
        have hb : Below w4.heap.size w4 W' := by
          rcases h with rfl | rfl
          · exact Below.refl _ _
          · exact (Below.refl _ _).alloc (Nat.le_refl _) _
        obtain ⟨⟨q0, q1, q2⟩, q3⟩ := K4.out W' hb
        exact ⟨⟨q0, q2⟩, q3⟩)
      go_wp2_with fail
      refine wp_region_one 10 9 (w4.alloc (.cells #[.int .i64 0, .int .i64 0, .int .i64 0, .slice none 0 0] 27)) (by kernel_rfl) (by kernel_rfl) (by decide) ?_
      simp only [List.take_succ_cons, List.take_zero, List.drop_succ_cons, List.drop_zero]
      iterate 9
        (apply wpOne_step (by rfl) (by decide); (intro W hW m; obtain ⟨⟨q0, q1⟩, q2, q3, q4, q5⟩ := K5.out W hW; go_simp; exact ⟨⟨_, rfl⟩, rfl⟩))
        simp only [Act.put, List.setIfInBounds_toArray, List.set_cons_succ, List.set_cons_zero]
      (apply wpOne_turn (by rfl); (intro m; go_simp; exact ⟨⟨_, rfl⟩, rfl⟩))
      simp only [Act.put, List.setIfInBounds_toArray, List.set_cons_succ, List.set_cons_zero]
      intro m
      go_wp2_with fail
      have h5a : Below w4.heap.size w4 ((w4.alloc (.cells #[.int .i64 fr, .int .i64 to, .int .i64 dl, .slice oa' op.length ocap] 27)).drewN m) := below_drewN ((Below.refl _ w4).alloc (Nat.le_refl _) _) m
      have h5b : ((w4.alloc (.cells #[.int .i64 fr, .int .i64 to, .int .i64 dl, .slice oa' op.length ocap] 27)).drewN m).heap[w4.heap.size]? = some (.cells #[.int .i64 fr, .int .i64 to, .int .i64 dl, .slice oa' op.length ocap] 27 (0, 0)) := heap_alloc_new w4 _
      obtain ⟨W5, hW5⟩ : ∃ W5, (w4.alloc (.cells #[.int .i64 fr, .int .i64 to, .int .i64 dl, .slice oa' op.length ocap] 27)).drewN m = W5 := ⟨_, rfl⟩
      rw [hW5] at h5a h5b
      rw [hW5]
      have h5s := (Array.getElem?_eq_some_iff.1 h5b).1
      have K6 : Hid (∀ W', Below W5.heap.size W5 W' → W'.cell? ⟨b', off' + k * 2 + 1, none⟩ = some (.int .i64 ht) ∧ W'.cell? ⟨w4.heap.size, 0, none⟩ = some (.int .i64 fr) ∧ W'.cell? ⟨w4.heap.size, 1, none⟩ = some (.int .i64 to) ∧ W'.cell? ⟨w4.heap.size, 2, none⟩ = some (.int .i64 dl) ∧ W'.cell? ⟨w4.heap.size, 3, none⟩ = some (.slice oa' op.length ocap)) := Lib.hid (fun W' h => by
        obtain ⟨⟨q0, q1, q2⟩, q3⟩ := K4.out W' (h5a.trans (h.mono h5a.size))
        have hh := (h.block _ h5s).trans h5b
        exact ⟨q1, cellH hh 0, cellH hh 1, cellH hh 2, cellH hh 3⟩)
      have HB5 := Lib.hid (HB4.out.trans (h5a.mono HB4.out.size))
      have HW5 := Lib.hid (HW4.out.trans (h5a.mono HW4.out.size))
      have CL : Hid (∀ w', Below W5.heap.size W5 w' → Calls Try.prog 45 #[.agg #[.int .i64 fr, .int .i64 to, .int .i64 dl, .slice oa' op.length ocap], .int .i64 ht] w' fun e w'' => e = .returned (.bool (canB ⟨fr, to, dl, op⟩ ht)) ∧ Below W5.heap.size W5 w'') := Lib.hid (fun w' h => (HCL.out w' (HW5.out.trans (h.mono HW5.out.size))).mono fun e w'' (hh : _ ∧ Below w'.heap.size w' w'') => And.intro hh.1 (h.trans (hh.2.mono h.size)))
      obtain ⟨cb, hcb⟩ : ∃ cb, canB ⟨fr, to, dl, op⟩ ht = cb := ⟨_, rfl⟩
      have HCB := Lib.hid hcb
      rw [hcb] at CL HHB
      clear h5a h5b h5s hW5 hcb hbn0 hbn1 hbn2 HCL K4 K5 KL K0 CW
      refine wp_region_turn 7 (fun _ w' => Below W5.heap.size W5 w') (by kernel_rfl) (by kernel_rfl) ((Below.refl _ W5).drew) ?_
      simp only [List.take_succ_cons, List.take_zero, List.drop_succ_cons, List.drop_zero]
      iterate 7
        (first
          | (apply turnC_step (by rfl); (intro w' hw'; go_simp; exact CL.out w' hw'))
          | (apply turnC_step (by rfl); (intro w' hw'; obtain ⟨q0, q1, q2, q3, q4⟩ := K6.out w' hw'; go_simp; first | exact ⟨hw', rfl⟩ | exact rfl)))
        simp only [Act.put, List.setIfInBounds_toArray, List.set_cons_succ, List.set_cons_zero]
      intro listed w6 _ hw6
      obtain ⟨q0, q1, q2, q3, q4⟩ := K6.out w6 hw6
      have HB6 := Lib.hid (HB5.out.trans (hw6.mono HB5.out.size))
      have HW6 := Lib.hid (HW5.out.trans (hw6.mono HW5.out.size))
      clear hw6
      by_cases p3 : fr = x
      case neg =>
        have HN : Hid (wayR st ls a b t l = (0, 8)) := Lib.hid (HVN.out (by rw [hT.out, hD.out, HHB.out, decide_eq_false (p := fr = x) p3]; simp))
        have g4 : (fr != x) = true := by simpa using p3
        clear hD HHB p3
        go_wp2_with fail
        go_ret2
        exact ⟨ret_val' (by rw [HN.out]; rfl), HB6.out⟩
      have g4 : (fr != x) = false := by simpa using p3
      by_cases p4 : ht < y
      · have HN : Hid (wayR st ls a b t l = (0, 8)) := Lib.hid (HVN.out (by rw [hT.out, hD.out, HHB.out, decide_eq_false (p := y ≤ ht) (by omega)]; simp))
        clear hD HHB p3
        go_wp2_with fail
        go_ret2
        exact ⟨ret_val' (by rw [HN.out]; rfl), HB6.out⟩
      have g5 : decide (ht < y) = false := decide_eq_false p4
      cases cb
      · have HN : Hid (wayR st ls a b t l = (0, 8)) := Lib.hid (HVN.out (by rw [hT.out, hD.out, HHB.out]; simp))
        clear hD HHB p3 p4
        go_wp2_with fail
        go_ret2
        exact ⟨ret_val' (by rw [HN.out]; rfl), HB6.out⟩
      have hbd : ht + dl ≤ 1048576 ∧ 0 ≤ ht ∧ 1 ≤ dl := by
        have hc := HCB.out
        have h : leaveO ⟨fr, to, dl, op⟩ ht = some ht := by unfold canB at hc; simpa using hc
        obtain ⟨_, h2, h3, h4⟩ := leaveO_bd h
        exact ⟨h3, h2, h4⟩
      obtain ⟨r1, r2, r3⟩ := hbd
      have HN : Hid (goL ls l a t = goL ls (l.drop (k + 1)) to (ht + dl)) := Lib.hid (by
        rw [hT.out, hD.out, HHB.out, decide_eq_true (p := (0 : Int) ≤ j) hj0, decide_eq_true (p := (j : Int) < ls.length) hji, decide_eq_true p3, decide_eq_true (p := y ≤ ht) (by omega)]; rfl)
      clear hD HHB p3 p4
      have HB7 := Lib.hid (hB.out.trans (HW6.out.mono hB.out.size))
      go_wp2_with fail
      go_quiet (fail)
      go_wp2_with fail
      go_roundw
      case rel => exact ⟨k + 1, to, ht + dl, HKL.out, by go_num, rfl, by go_num, HN, Lib.hid (below_drewN HB7.out _)⟩
      case measure => have := HKL.out; simp [intOf]; omega
    · obtain rfl : k = l.length := by omega
      have HF : Hid (goL ls l a t = some (x, y)) := Lib.hid (by rw [hT.out, List.drop_length]; rfl)
      have HBx : Hid (Below w.heap.size w wr) := Lib.hid (HB1.out.trans (hB.out.mono HB1.out.size))
      by_cases p : x = b
      · have HN : Hid (wayR st ls a b t l = (y, 0)) := Lib.hid (by rw [HV.out, HF.out]; simp [p])
        have g : (x != b) = false := by simpa using p
        clear p
        go_wp2_with fail
        go_ret2
        exact ⟨ret_val' (by rw [HN.out]; rfl), HBx.out⟩
      · have HN : Hid (wayR st ls a b t l = (0, 8)) := Lib.hid (by rw [HV.out, HF.out]; simp [p])
        have g : (x != b) = true := by simpa using p
        clear p
        go_wp2_with fail
        go_ret2
        exact ⟨ret_val' (by rw [HN.out]; rfl), HBx.out⟩
end Go.Proofs.Yteghcdabaigcbaa
