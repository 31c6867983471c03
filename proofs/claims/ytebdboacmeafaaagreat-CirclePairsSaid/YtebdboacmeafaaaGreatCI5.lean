/- The law CirclePairs. -/
import Derived.Test.YtebdboacmeafaaaGreatCG9
import Derived.Test.YtebdboacmeafaaaGreatCI3
import Derived.Test.YtebdboacmeafaaaGreatCF1
import Derived.Test.YtebdboacmeafaaaGreatCKA
set_option linter.unusedVariables false
set_option linter.unusedSimpArgs false
namespace Go.Proofs.YtebdboacmeafaaaGreat
open Go Go.RowKit

theorem wo_one (ks : List Ck) (i : Int) : woC ks [i] = ks.filter fun k => !(k.id == i) := by
  unfold woC
  apply List.filter_congr
  intro k _
  simp
  rfl
theorem wo_all (ks : List Ck) : woC ks (ks.map Ck.id) = [] := by
  unfold woC
  rw [List.filter_eq_nil_iff]
  intro k hk
  simp
  exact ⟨k, hk, rfl⟩
theorem any_eq_mem (l : List Int) (x : Int) : (l.any fun s => s == x) = true ↔ x ∈ l := by
  rw [List.any_eq_true]
  constructor
  · rintro ⟨y, hy, h⟩
    rw [beq_iff_eq] at h; exact h ▸ hy
  · intro h; exact ⟨x, h, by simp⟩
/-- What each check is to the pairs. -/
theorem pairs_core {cs : List Ci} {ks : List Ck} (hE : ccE cs ks = 0) {k : Nat} (hk : k < ks.length) :
    ((suS cs ks).any fun s => s == (ks.getD k .nil).id) = (decide (0 < (clK cs ks cs.length).length) && (clK cs ks cs.length).all (hasI (ks.getD k .nil).id)) ∧
      (clK cs (woC ks [(ks.getD k .nil).id]) cs.length).isEmpty = (clK cs ks cs.length).all (hasI (ks.getD k .nil).id) := by
  have ho := ccE_ok hE
  have hv := ci_iff.1 (ck_valid ho hk)
  constructor
  · unfold suS
    rw [if_pos hE]
    by_cases h0 : (clK cs ks cs.length).length = 0
    · rw [if_pos h0, decide_eq_false (by omega), Bool.false_and]; rfl
    · rw [if_neg h0, decide_eq_true (by omega), Bool.true_and, Bool.eq_iff_iff, any_eq_mem, (suR_ok ks.length (Nat.le_refl _)).1.mem_iff]
      unfold suF
      rw [List.take_length, List.mem_filter]
      constructor
      · rintro ⟨_, h⟩; exact h
      · intro h
        refine ⟨List.mem_map.2 ⟨ks.getD k .nil, ?_, rfl⟩, h⟩
        rw [List.getD_eq_getElem?_getD, List.getElem?_eq_getElem hk]; exact List.getElem_mem _
  · rw [wo_one]
    exact pairs_one ho (by omega) cs.length
theorem any_step {l : List Int} {x : Int} {j : Nat} (hj : j < l.length) : ((l.take (j + 1)).any fun s => s == x) = (((l.take j).any fun s => s == x) || (l.getD j 0 == x)) := by
  rw [List.take_succ_eq_append_getElem hj, List.any_append, List.getD_eq_getElem?_getD, List.getElem?_eq_getElem hj]
  simp
theorem ids_step {ks : List Ck} {k : Nat} (hk : k < ks.length) : (ks.take (k + 1)).map Ck.id = (ks.take k).map Ck.id ++ [(ks.getD k .nil).id] := by
  rw [List.take_succ_eq_append_getElem hk, List.map_append, List.getD_eq_getElem?_getD, List.getElem?_eq_getElem hk]; rfl
set_option maxRecDepth 100000 in
set_option maxHeartbeats 8000000 in
theorem pairs_card (v1 v2 : Value) (cs : List Ci) (ks : List Ck) (w : World) (hv1 : CiRow w v1 cs) (hv2 : CkRow w v2 ks) (hl1 : cs.length ≤ 9223372036854775807) (hl2 : ks.length ≤ 9223372036854775807) :
    Calls Tryz.prog 6 #[.agg #[v1, v2]] w fun e w' => e = .returned (.bool true) ∧ Below w.heap.size w w' := by
  obtain ⟨a1, c1, rfl, _⟩ := hv1.form
  obtain ⟨a2, c2, rfl, hc2⟩ := hv2.form
  have HC2 := Lib.hid hc2
  have HF := Lib.hid (fun w' => few_any a1 a2 cs.length c1 ks.length c2 w')
  have HCL := Lib.hid (fun w' (h : Below w.heap.size w w') => Clashes_any (.slice a1 cs.length c1) (.slice a2 ks.length c2) cs ks w' (hv1.keep h) (hv2.keep h) hl1 hl2)
  have HSU := Lib.hid (fun w' (h : Below w.heap.size w w') => Suspects_any (.slice a1 cs.length c1) (.slice a2 ks.length c2) cs ks w' (hv1.keep h) (hv2.keep h) hl1 hl2)
  have H5 := Lib.hid (fun w' => sanity_any w')
  have HWO := Lib.hid (fun vi ids w' (h : Below w.heap.size w w') (hi : INRow w' vi ids) (hn : ids.length ≤ 9223372036854775807) => Without_any (.slice a1 cs.length c1) (.slice a2 ks.length c2) vi cs ks ids w' (hv1.keep h) (hv2.keep h) hi hl1 hl2 hn)
  have HLC := Lib.hid (fun v1 v2 (K : List Ck) w' (h1 : CiRow w' v1 cs) (h2 : CkRow w' v2 K) (hk : K.length ≤ 60) (hn : cs.length ≤ 12) => Clashes_any v1 v2 cs K w' h1 h2 (by omega) (by omega))
  have HOK := Lib.hid (ccE_ok (cs := cs) (ks := ks))
  have HLK := Lib.hid (fun (h : CcOk cs ks) => clK_len h cs.length (Nat.le_refl _))
  have HCF := Lib.hid (fun (h : ccE cs ks = 0) ids => show ccE cs (woC ks ids) = 0 from ccE_filter h _)
  have HPC := Lib.hid (fun (h : ccE cs ks = 0) (k : Nat) (hk : k < ks.length) => pairs_core h hk)
  have HWI := Lib.hid (fun (h : ccE cs ks = 0) (k : Nat) (hk : k < ks.length) => woE_one h hk)
  have HWA : Hid (ccE cs ks = 0 → woE cs ks (ks.map Ck.id) = 0) := Lib.hid (fun h => woE_zero h (fun i hi => by
    obtain ⟨x, hx, rfl⟩ := List.mem_map.1 hi
    obtain ⟨j, hj, hjx⟩ := List.getElem_of_mem hx
    have := ck_valid (ccE_ok h) hj
    rwa [List.getD_eq_getElem?_getD, List.getElem?_eq_getElem hj, Option.getD_some, hjx] at this))
  unfold ClOut at HCL HLC
  unfold SuOut at HSU
  obtain ⟨E, hE⟩ : ∃ N, ccE cs ks = N := ⟨_, rfl⟩
  obtain ⟨L, hL⟩ : ∃ N, clK cs ks cs.length = N := ⟨_, rfl⟩
  obtain ⟨S, hS⟩ : ∃ N, suS cs ks = N := ⟨_, rfl⟩
  have HSL : Hid (S.length ≤ ks.length) := Lib.hid (by
    rw [← hS]; unfold suS
    split
    · split
      · simp
      · exact suR_len _ _ _
    · simp)
  rw [hE, hL] at HCL
  rw [hE, hS] at HSU
  rw [hE] at HOK HCF HWI HWA
  rw [hE, hL, hS] at HPC
  rw [hL] at HLK
  obtain ⟨B0, hB0⟩ : ∃ B, fwB cs.length ks.length = B := ⟨_, rfl⟩
  rw [hB0] at HF
  obtain ⟨i0, hi0, hz0, hz1, hz2⟩ := info_parts info_in1
  clear hc2 hv1 hv2 hl1 hl2 hE hL hS hB0
  obtain ⟨x0, xlt, xb⟩ := cells1 w #[.slice a1 cs.length c1, .slice a2 ks.length c2] 25 (Below.refl _ _)
  have HNc : Hid ((w.alloc (.cells #[.slice a1 cs.length c1, .slice a2 ks.length c2] 25)).heap[w.heap.size]? = some (.cells #[.slice a1 cs.length c1, .slice a2 ks.length c2] 25 (0, 0))) := Lib.hid x0
  have HB : Hid (Below w.heap.size w (w.alloc (.cells #[.slice a1 cs.length c1, .slice a2 ks.length c2] 25))) := Lib.hid xb
  obtain ⟨Z, hZ⟩ : ∃ Z, (w.alloc (.cells #[.slice a1 cs.length c1, .slice a2 ks.length c2] 25)) = Z := ⟨_, rfl⟩
  rw [hZ] at HB HNc
  have HZ := Lib.hid hZ
  clear hZ xlt xb x0
  go_enter Tryz.func6, Tryz.ntmps6
  go_wp2_with fail
  rw [HZ.out]
  refine (HF.out _).mono ?_
  rintro e w1 ⟨rfl, hb⟩
  replace HB := Lib.hid (HB.out.trans (hb.mono HB.out.size))
  replace HNc := Lib.hid ((hb.block _ (Array.getElem?_eq_some_iff.1 HNc.out).1).trans HNc.out)
  clear hb
  cases B0
  · skip
    have zc0 := cellH HNc.out 0
    have zc1 := cellH HNc.out 1
    simp only [List.getElem?_toArray, List.getElem?_cons_zero, List.getElem?_cons_succ] at zc0 zc1
    go_wp2_with fail
    refine (H5.out _).mono ?_
    rintro e w2 ⟨rfl, hb⟩
    clear zc0 zc1
    replace HB := Lib.hid (HB.out.trans (hb.mono HB.out.size))
    replace HNc := Lib.hid ((hb.block _ (Array.getElem?_eq_some_iff.1 HNc.out).1).trans HNc.out)
    clear hb
    go_wp2_with fail
    go_ret
    exact ⟨rfl, HB.out⟩
  have zc0 := cellH HNc.out 0
  have zc1 := cellH HNc.out 1
  simp only [List.getElem?_toArray, List.getElem?_cons_zero, List.getElem?_cons_succ] at zc0 zc1
  go_wp2_with fail
  refine (HCL.out _ HB.out).mono ?_
  rintro e w3 ⟨hb, h1, h2⟩
  clear zc0 zc1
  replace HB := Lib.hid (HB.out.trans (hb.mono HB.out.size))
  replace HNc := Lib.hid ((hb.block _ (Array.getElem?_eq_some_iff.1 HNc.out).1).trans HNc.out)
  clear hb
  by_cases h0 : E = 0
  case neg =>
    have he := h1 h0
    subst he
    have gE : (E != 0) = true := by simpa using h0
    clear h0 h1 h2
    have zc0 := cellH HNc.out 0
    have zc1 := cellH HNc.out 1
    simp only [List.getElem?_toArray, List.getElem?_cons_zero, List.getElem?_cons_succ] at zc0 zc1
    go_wp2_with fail
    refine (HSU.out _ HB.out).mono ?_
    rintro e w4 ⟨sv, rfl, _, hb⟩
    clear zc0 zc1
    replace HB := Lib.hid (HB.out.trans (hb.mono HB.out.size))
    replace HNc := Lib.hid ((hb.block _ (Array.getElem?_eq_some_iff.1 HNc.out).1).trans HNc.out)
    clear hb
    have gF : (E != E) = false := by simp
    have zc0 := cellH HNc.out 0
    have zc1 := cellH HNc.out 1
    simp only [List.getElem?_toArray, List.getElem?_cons_zero, List.getElem?_cons_succ] at zc0 zc1
    go_wp2_with fail
    refine (H5.out _).mono ?_
    rintro e w5 ⟨rfl, hb⟩
    clear zc0 zc1
    replace HB := Lib.hid (HB.out.trans (hb.mono HB.out.size))
    replace HNc := Lib.hid ((hb.block _ (Array.getElem?_eq_some_iff.1 HNc.out).1).trans HNc.out)
    clear hb
    go_wp2_with fail
    go_ret
    exact ⟨rfl, HB.out⟩
  subst h0
  obtain ⟨lv, rfl, hp⟩ := h2 rfl
  have HO := Lib.hid (HOK.out rfl)
  have HLL := Lib.hid (HLK.out HO.out)
  replace HCF := Lib.hid (HCF.out rfl)
  replace HPC := Lib.hid (HPC.out rfl)
  replace HWI := Lib.hid (HWI.out rfl)
  replace HWA := Lib.hid (HWA.out rfl)
  obtain ⟨la, lb, rfl, _⟩ := hp.form
  have HP := Lib.hid hp
  clear h1 h2 hp HOK HLK
  have zc0 := cellH HNc.out 0
  have zc1 := cellH HNc.out 1
  simp only [List.getElem?_toArray, List.getElem?_cons_zero, List.getElem?_cons_succ] at zc0 zc1
  go_wp2_with fail
  refine (HSU.out _ HB.out).mono ?_
  rintro e w6 ⟨sv, rfl, hs, hb⟩
  clear zc0 zc1
  replace HB := Lib.hid (HB.out.trans (hb.mono HB.out.size))
  replace HNc := Lib.hid ((hb.block _ (Array.getElem?_eq_some_iff.1 HNc.out).1).trans HNc.out)
  replace HP := Lib.hid (HP.out.keep hb)
  clear hb
  obtain ⟨sa, sb, rfl, _⟩ := hs.form
  have HS := Lib.hid hs
  clear hs HSU HCL
  have HQ : Hid (BlC w6 w6) := Lib.hid (Below.refl _ _)
  have HWB := Lib.hid HB.out.size
  have HOI : Hid (OwI w6 w6.heap.size (.slice none 0 0) ((ks.take 0).map Ck.id)) := Lib.hid ⟨rfl, .inl ⟨rfl, rfl⟩⟩
  have zc0 := cellH HNc.out 0
  have zc1 := cellH HNc.out 1
  simp only [List.getElem?_toArray, List.getElem?_cons_zero, List.getElem?_cons_succ] at zc0 zc1
  go_wp2_with fail
  clear zc0 zc1
  go_loopw [7, 8] (fun x i wr => ∃ (k : Nat) (o : Value), k ≤ ks.length ∧ x = o ∧ i = .int .i64 k ∧ Hid (OwI wr w6.heap.size o ((ks.take k).map Ck.id)) ∧ Hid (Below w.heap.size w wr) ∧ Hid (wr.heap[w.heap.size]? = some (.cells #[.slice a1 cs.length c1, .slice a2 ks.length c2] 25 (0, 0))) ∧ Hid (BlC w6 wr)) (fun _ i _ => ks.length - (intOf i).toNat)
  case atStart => exact ⟨0, _, Nat.zero_le _, rfl, rfl, HOI, HB, HNc, HQ⟩
  case round =>
    clear HB HNc HQ
    clear HOI
    obtain ⟨k, o, hk, hx5, rfl, HOI, HB, HNc, HQ⟩ := hrel
    have hx5 := hx5.symm
    subst hx5
    have hm := HO.out.m
    by_cases hkl : k < ks.length
    · obtain ⟨b, off, rfl, hb, hat⟩ := HC2.out k hkl
      have e0 := (hat.keep HB.out hb).1
      have hki : (k : Int) < ks.length := by omega
      have hk0 : (0 : Int) ≤ k := by omega
      have HKL := Lib.hid hkl
      have HKM := Lib.hid (show k < 60 by omega)
      have HIS := Lib.hid (ids_step hkl)
      have HPK := Lib.hid (HPC.out k hkl)
      have HW1 := Lib.hid (HWI.out k hkl)
      obtain ⟨X, hX⟩ : ∃ X, (ks.getD k .nil).id = X := ⟨_, rfl⟩
      rw [hX] at e0 HIS HPK HW1
      obtain ⟨FL, hFL⟩ : ∃ q, (ks.take k).map Ck.id = q := ⟨_, rfl⟩
      rw [hFL] at HIS HOI
      have HFN : Hid (FL.length = k) := Lib.hid (by rw [← hFL, List.length_map, List.length_take]; omega)
      have HGG : Hid (decide (0 < L.length) = decide (0 < L.length)) := Lib.hid rfl
      obtain ⟨GB, hGB⟩ : ∃ q, decide (0 < L.length) = q := ⟨_, rfl⟩
      rw [hGB] at HPK
      have gI : decide ((0 : Int) < (L.length : Int)) = GB := by rw [← hGB]; exact decide_eq_decide.2 (by omega)
      have HGB := Lib.hid hGB
      have HGI := Lib.hid gI
      clear hX hat hb hFL hm
      have zc0 := cellH HNc.out 0
      have zc1 := cellH HNc.out 1
      simp only [List.getElem?_toArray, List.getElem?_cons_zero, List.getElem?_cons_succ] at zc0 zc1
      go_wp2_with fail
      clear zc0 zc1
      clear e0
      go_loopw [10, 11] (fun x i wr => ∃ (j : Nat), j ≤ L.length ∧ x = .bool (GB && (L.take j).all (hasI X)) ∧ i = .int .i64 j ∧ Hid (Below w.heap.size w wr) ∧ Hid (wr.heap[w.heap.size]? = some (.cells #[.slice a1 cs.length c1, .slice (some ⟨b, off, none⟩) ks.length c2] 25 (0, 0))) ∧ Hid (BlC w6 wr) ∧ Hid (OwI wr w6.heap.size o FL)) (fun _ i _ => L.length - (intOf i).toNat)
      case atStart => exact ⟨0, Nat.zero_le _, by simp [HGB.out, HGI.out], rfl, HB, HNc, HQ, HOI⟩
      case round =>
        clear HB HNc HQ HOI
        clear hGB gI
        obtain ⟨j, hj, rfl, rfl, HB, HNc, HQ, HOI⟩ := hrel
        have hll := HLL.out
        have hcn := HO.out.n
        by_cases hjl : j < L.length
        · obtain ⟨pa2, pc2, hpq, hPf⟩ := (HP.out.keep HQ.out).form
          cases hpq
          obtain ⟨b2, off2, rfl, hb2, f0, f1⟩ := hPf j hjl
          have hji : (j : Int) < L.length := by omega
          have hj0 : (0 : Int) ≤ j := by omega
          have HJL := Lib.hid hjl
          have HAS := Lib.hid (all_step (f := hasI X) hjl)
          obtain ⟨Y, hY⟩ : ∃ Y, L.getD j (0, 0) = Y := ⟨_, rfl⟩
          rw [hY] at f0 f1 HAS
          obtain ⟨y0, y1⟩ := Y
          simp only at f0 f1
          have HHI : Hid (hasI X (y0, y1) = (y0 == X || y1 == X)) := Lib.hid rfl
          obtain ⟨A0, hA0⟩ : ∃ A, (L.take j).all (hasI X) = A := ⟨_, rfl⟩
          obtain ⟨A1, hA1⟩ : ∃ A, (L.take (j + 1)).all (hasI X) = A := ⟨_, rfl⟩
          rw [hA0, hA1] at HAS
          rw [hA0]
          have HA1 := Lib.hid hA1
          obtain ⟨B1, hB1⟩ : ∃ A, (GB && A0) = A := ⟨_, rfl⟩
          have HV0 : Hid ((GB && A1) = (B1 && (y0 == X || y1 == X))) := Lib.hid (by rw [← hB1, HAS.out, HHI.out, Bool.and_assoc])
          rw [hB1]
          clear hPf hb2 hY hA0 hA1 hB1
          cases B1
          · have HV : Hid ((GB && A1) = false) := Lib.hid (by rw [HV0.out]; rfl)
            go_wp2_with fail
            go_roundw
            case rel => exact ⟨j + 1, HJL.out, by rw [HA1.out, HV.out], by go_num, HB, HNc, HQ, HOI⟩
            case measure => have := HJL.out; simp [intOf]; omega
          cases g1 : (y0 == X)
          · cases g2 : (y1 == X)
            · have HV : Hid ((GB && A1) = false) := Lib.hid (by rw [HV0.out, g1, g2]; rfl)
              go_wp2_with fail
              go_roundw
              case rel => exact ⟨j + 1, HJL.out, by rw [HA1.out, HV.out], by go_num, HB, HNc, HQ, HOI⟩
              case measure => have := HJL.out; simp [intOf]; omega
            · have HV : Hid ((GB && A1) = true) := Lib.hid (by rw [HV0.out, g1, g2]; rfl)
              go_wp2_with fail
              go_roundw
              case rel => exact ⟨j + 1, HJL.out, by rw [HA1.out, HV.out], by go_num, HB, HNc, HQ, HOI⟩
              case measure => have := HJL.out; simp [intOf]; omega
          · have HV : Hid ((GB && A1) = true) := Lib.hid (by rw [HV0.out, g1]; rfl)
            go_wp2_with fail
            go_roundw
            case rel => exact ⟨j + 1, HJL.out, by rw [HA1.out, HV.out], by go_num, HB, HNc, HQ, HOI⟩
            case measure => have := HJL.out; simp [intOf]; omega
        · obtain rfl : j = L.length := by omega
          rw [List.take_length]
          have HI1 : Hid ((GB && L.all (hasI X)) = (S.any fun s => s == X)) := Lib.hid HPK.out.1.symm
          obtain ⟨IB, hIB⟩ : ∃ q, (GB && L.all (hasI X)) = q := ⟨_, rfl⟩
          rw [hIB] at HI1 ⊢
          have HIB := Lib.hid hIB
          have hj1 : ¬ (L.length : Int) < L.length := by omega
          clear hIB hjl hj
          go_wp2_with fail
          clear hj1
          go_loopw [12, 13] (fun x i wr => ∃ (j : Nat), j ≤ S.length ∧ x = .bool ((S.take j).any fun s => s == X) ∧ i = .int .i64 j ∧ Hid (Below w.heap.size w wr) ∧ Hid (wr.heap[w.heap.size]? = some (.cells #[.slice a1 cs.length c1, .slice (some ⟨b, off, none⟩) ks.length c2] 25 (0, 0))) ∧ Hid (BlC w6 wr) ∧ Hid (OwI wr w6.heap.size o FL)) (fun _ i _ => S.length - (intOf i).toNat)
          case atStart => exact ⟨0, Nat.zero_le _, rfl, rfl, HB, HNc, HQ, HOI⟩
          case round =>
            clear HB HNc HQ HOI
            obtain ⟨j, hj, rfl, rfl, HB, HNc, HQ, HOI⟩ := hrel
            have hsl := HSL.out
            have hkm := HO.out.m
            by_cases hjl : j < S.length
            · obtain ⟨pa2, pc2, hpq, hPf⟩ := (INRow.keep HS.out HQ.out).form
              cases hpq
              obtain ⟨b2, off2, rfl, hb2, f0⟩ := hPf j hjl
              have hji : (j : Int) < S.length := by omega
              have hj0 : (0 : Int) ≤ j := by omega
              have HJL := Lib.hid hjl
              have HAS := Lib.hid (any_step (x := X) hjl)
              obtain ⟨Y, hY⟩ : ∃ Y, S.getD j 0 = Y := ⟨_, rfl⟩
              rw [hY] at f0 HAS
              obtain ⟨A0, hA0⟩ : ∃ A, ((S.take j).any fun s => s == X) = A := ⟨_, rfl⟩
              obtain ⟨A1, hA1⟩ : ∃ A, ((S.take (j + 1)).any fun s => s == X) = A := ⟨_, rfl⟩
              rw [hA0, hA1] at HAS
              rw [hA0]
              have HA1 := Lib.hid hA1
              clear hPf hb2 hY hA0 hA1
              cases A0
              · cases g1 : (Y == X)
                · have HV : Hid (A1 = false) := Lib.hid (by rw [HAS.out, g1]; rfl)
                  go_wp2_with fail
                  go_roundw
                  case rel => exact ⟨j + 1, HJL.out, by rw [HA1.out, HV.out], by go_num, HB, HNc, HQ, HOI⟩
                  case measure => have := HJL.out; simp [intOf]; omega
                · have HV : Hid (A1 = true) := Lib.hid (by rw [HAS.out, g1]; rfl)
                  go_wp2_with fail
                  go_roundw
                  case rel => exact ⟨j + 1, HJL.out, by rw [HA1.out, HV.out], by go_num, HB, HNc, HQ, HOI⟩
                  case measure => have := HJL.out; simp [intOf]; omega
              · have HV : Hid (A1 = true) := Lib.hid (by rw [HAS.out]; rfl)
                go_wp2_with fail
                go_roundw
                case rel => exact ⟨j + 1, HJL.out, by rw [HA1.out, HV.out], by go_num, HB, HNc, HQ, HOI⟩
                case measure => have := HJL.out; simp [intOf]; omega
            · obtain rfl : j = S.length := by omega
              rw [List.take_length, ← HI1.out]
              have hj1 : ¬ (S.length : Int) < S.length := by omega
              clear hjl hj hsl hkm
              have zc0 := cellH HNc.out 0
              have zc1 := cellH HNc.out 1
              simp only [List.getElem?_toArray, List.getElem?_cons_zero, List.getElem?_cons_succ] at zc0 zc1
              have hAlc : Below wr.heap.size wr (wr.alloc (.cells #[.int .i64 X] 3)) := (Below.refl _ wr).alloc (Nat.le_refl _) _
              have HSdi : Hid (w.heap.size ≤ wr.heap.size) := Lib.hid HB.out.size
              have HNdi : Hid ((wr.alloc (.cells #[.int .i64 X] 3)).heap[wr.heap.size]? = some (.cells #[.int .i64 X] 3 (0, 0))) := Lib.hid (heap_alloc_new _ _)
              replace HB := Lib.hid (HB.out.trans (hAlc.mono HB.out.size))
              have HXc_di : Hid (w.heap.size ≠ wr.heap.size) := Lib.hid (Nat.ne_of_lt (Array.getElem?_eq_some_iff.1 HNc.out).1)
              replace HNc := Lib.hid ((hAlc.block _ (Array.getElem?_eq_some_iff.1 HNc.out).1).trans HNc.out)
              replace HQ := Lib.hid (HQ.out.keep hAlc)
              replace HOI := Lib.hid (HOI.out.keep hAlc)
              obtain ⟨adi, hadi⟩ : ∃ qq, wr.alloc (.cells #[.int .i64 X] 3) = qq := ⟨_, rfl⟩
              obtain ⟨bkdi, hbdi⟩ : ∃ qq, wr.heap.size = qq := ⟨_, rfl⟩
              rw [hadi] at HB HNdi HNc HQ HOI
              rw [hbdi] at HNdi HSdi HXc_di
              clear hAlc
              have HRI := Lib.hid (row_one X HNdi.out)
              go_wp2_with fail
              try clear hadi hbdi
              refine (HWO.out _ [X] _ HB.out HRI.out (by simp)).mono ?_
              rintro e w7 ⟨hb, _, hw⟩
              clear zc0 zc1
              replace HB := Lib.hid (HB.out.trans (hb.mono HB.out.size))
              replace HNc := Lib.hid ((hb.block _ (Array.getElem?_eq_some_iff.1 HNc.out).1).trans HNc.out)
              replace HNdi := Lib.hid ((hb.block _ (Array.getElem?_eq_some_iff.1 HNdi.out).1).trans HNdi.out)
              replace HQ := Lib.hid (HQ.out.keep hb)
              replace HOI := Lib.hid (HOI.out.keep hb)
              clear hb HRI hj1
              obtain ⟨va, vb, rfl, hr1, hr2⟩ := hw HW1.out
              obtain ⟨pa, pb, rfl, _⟩ := hr1.form
              obtain ⟨qa, qb, rfl, _⟩ := hr2.form
              have hlk : (woC ks [X]).length ≤ 60 := Nat.le_trans (List.length_filter_le _ _) HO.out.m
              have HLC1 := Lib.hid (fun w' h1 h2 => HLC.out (.slice pa cs.length pb) (.slice qa (woC ks [X]).length qb) (woC ks [X]) w' h1 h2 hlk HO.out.n)
              have HC1 := Lib.hid (HCF.out [X])
              have HMM := Lib.hid HPK.out.2
              have HR1 := Lib.hid hr1
              have HR2 := Lib.hid hr2
              obtain ⟨KL2, hKL⟩ : ∃ q, woC ks [X] = q := ⟨_, rfl⟩
              rw [hKL] at HLC1 HR2 HC1 HMM
              rw [HC1.out] at HLC1
              obtain ⟨KN2, hKN⟩ : ∃ q, KL2.length = q := ⟨_, rfl⟩
              rw [hKL, hKN]
              rw [hKN] at HLC1 HR2
              obtain ⟨M, hM⟩ : ∃ q, clK cs KL2 cs.length = q := ⟨_, rfl⟩
              rw [hM] at HLC1 HMM
              clear hw hr1 hr2 hlk hKL hKN hM
              clear HNdi
              have hAlc : Below w7.heap.size w7 (w7.alloc (.cells #[.slice pa cs.length pb, .slice qa KN2 qb] 25)) := (Below.refl _ w7).alloc (Nat.le_refl _) _
              have HSso : Hid (w.heap.size ≤ w7.heap.size) := Lib.hid HB.out.size
              have HNso : Hid ((w7.alloc (.cells #[.slice pa cs.length pb, .slice qa KN2 qb] 25)).heap[w7.heap.size]? = some (.cells #[.slice pa cs.length pb, .slice qa KN2 qb] 25 (0, 0))) := Lib.hid (heap_alloc_new _ _)
              replace HB := Lib.hid (HB.out.trans (hAlc.mono HB.out.size))
              have HXc_so : Hid (w.heap.size ≠ w7.heap.size) := Lib.hid (Nat.ne_of_lt (Array.getElem?_eq_some_iff.1 HNc.out).1)
              replace HNc := Lib.hid ((hAlc.block _ (Array.getElem?_eq_some_iff.1 HNc.out).1).trans HNc.out)
              replace HQ := Lib.hid (HQ.out.keep hAlc)
              replace HOI := Lib.hid (HOI.out.keep hAlc)
              replace HR1 := Lib.hid (HR1.out.keep hAlc)
              replace HR2 := Lib.hid (HR2.out.keep hAlc)
              obtain ⟨aso, haso⟩ : ∃ qq, w7.alloc (.cells #[.slice pa cs.length pb, .slice qa KN2 qb] 25) = qq := ⟨_, rfl⟩
              obtain ⟨bkso, hbso⟩ : ∃ qq, w7.heap.size = qq := ⟨_, rfl⟩
              rw [haso] at HB HNso HNc HQ HOI HR1 HR2
              rw [hbso] at HNso HSso HXc_so
              clear hAlc
              have zso0 := cellH HNso.out 0
              have zso1 := cellH HNso.out 1
              simp only [List.getElem?_toArray, List.getElem?_cons_zero, List.getElem?_cons_succ] at zso0 zso1
              go_wp2_with fail
              try clear haso hbso
              refine (HLC1.out _ HR1.out HR2.out).mono ?_
              rintro e w8 ⟨hb, _, h2⟩
              obtain ⟨mv, rfl, hmr⟩ := h2 (by trivial)
              clear zso0 zso1
              replace HB := Lib.hid (HB.out.trans (hb.mono HB.out.size))
              replace HNc := Lib.hid ((hb.block _ (Array.getElem?_eq_some_iff.1 HNc.out).1).trans HNc.out)
              replace HNso := Lib.hid ((hb.block _ (Array.getElem?_eq_some_iff.1 HNso.out).1).trans HNso.out)
              replace HQ := Lib.hid (HQ.out.keep hb)
              replace HOI := Lib.hid (HOI.out.keep hb)
              replace HR1 := Lib.hid (HR1.out.keep hb)
              replace HR2 := Lib.hid (HR2.out.keep hb)
              clear hb HR1 HR2 HLC1 h2
              clear HNso
              obtain ⟨ma, mb, rfl, _⟩ := hmr.form
              clear hmr
              have hgb := HGB.out
              have hgi := HGI.out
              have hib := HIB.out
              have hmm := HMM.out
              have hmi : ((M.length : Int) == 0) = L.all (hasI X) := by
                rw [← hmm]; cases M <;> simp; omega
              obtain ⟨AL, hAL⟩ : ∃ q, L.all (hasI X) = q := ⟨_, rfl⟩
              rw [hAL] at hib hmi
              have hln : FL.length < 60 := by rw [HFN.out]; exact HKM.out
              have h63 : FL.length + 1 ≤ maxLen := by unfold maxLen; omega
              have hby : (FL.length + 1) * 8 ≤ 140737488355328 := by omega
              have hbase : w6.heap.size ≤ w8.heap.size := Below.size HQ.out
              have hO4 := HOI.out
              unfold OwI at hO4
              clear hAL hmm
              cases GB
              · obtain rfl : IB = false := by rw [← hib]; rfl
                clear hib hmi
                have hkm := HKM.out
                go_wp2_with (at_builtin; refine wpList_append_own _ rfl _ _ 26 rfl w6.heap.size 3 i0 (.int .i64 0) 1 8 Tryz.underlying26 hi0 hz0 hz1 hz2 rfl (by decide) _ _ _ rfl (World.ownsRow.alloc hO4 _) ⟨w8.heap.size, 0, none⟩ 1 1 [.int .i64 X] rfl rfl (fun j u h => cell_one' _ _ _ j u h) (by simp [Value.oneCell']) h63 hby (by simp; omega) ?_; intro v' w5 hown' hgrow _)
                have HB5 : Hid (Below w.heap.size w w5) := Lib.hid ((HB.out.alloc HB.out.size _).grown hgrow (by have := HB.out.size; simp; omega) (fun j e => Nat.le_trans HWB.out (World.ownsRow.lt hO4 j e).1))
                have HQ5 : Hid (BlC w6 w5) := Lib.hid ((Below.alloc HQ.out (Below.size HQ.out) _).grown hgrow (by simp; omega) (fun j e => (World.ownsRow.lt hO4 j e).1))
                have HO5 : Hid (OwI w5 w6.heap.size v' ((ks.take (k + 1)).map Ck.id)) := Lib.hid (by
                  rw [HIS.out]
                  unfold OwI
                  rw [List.length_append, List.map_append]; exact hown')
                have HNc5 := Lib.hid ((hgrow.block (w.heap.size) (by have := (Array.getElem?_eq_some_iff.1 HNc.out).1; simp; omega) (own_neJ hO4 HNc.out (by decide))).trans ((((Below.refl w8.heap.size w8).alloc (Nat.le_refl _) _).block _ (Array.getElem?_eq_some_iff.1 HNc.out).1).trans HNc.out))
                clear hown' hgrow hO4
                go_roundw
                case rel => exact ⟨k + 1, v', HKL.out, rfl, by go_num, HO5, HB5, HNc5, HQ5⟩
                case measure => have := HKL.out; simp [intOf]; omega
              rw [Bool.true_and] at hib
              subst hib
              cases AL
              · skip
                have hkm := HKM.out
                go_wp2_with (at_builtin; refine wpList_append_own _ rfl _ _ 26 rfl w6.heap.size 3 i0 (.int .i64 0) 1 8 Tryz.underlying26 hi0 hz0 hz1 hz2 rfl (by decide) _ _ _ rfl (World.ownsRow.alloc hO4 _) ⟨w8.heap.size, 0, none⟩ 1 1 [.int .i64 X] rfl rfl (fun j u h => cell_one' _ _ _ j u h) (by simp [Value.oneCell']) h63 hby (by simp; omega) ?_; intro v' w5 hown' hgrow _)
                have HB5 : Hid (Below w.heap.size w w5) := Lib.hid ((HB.out.alloc HB.out.size _).grown hgrow (by have := HB.out.size; simp; omega) (fun j e => Nat.le_trans HWB.out (World.ownsRow.lt hO4 j e).1))
                have HQ5 : Hid (BlC w6 w5) := Lib.hid ((Below.alloc HQ.out (Below.size HQ.out) _).grown hgrow (by simp; omega) (fun j e => (World.ownsRow.lt hO4 j e).1))
                have HO5 : Hid (OwI w5 w6.heap.size v' ((ks.take (k + 1)).map Ck.id)) := Lib.hid (by
                  rw [HIS.out]
                  unfold OwI
                  rw [List.length_append, List.map_append]; exact hown')
                have HNc5 := Lib.hid ((hgrow.block (w.heap.size) (by have := (Array.getElem?_eq_some_iff.1 HNc.out).1; simp; omega) (own_neJ hO4 HNc.out (by decide))).trans ((((Below.refl w8.heap.size w8).alloc (Nat.le_refl _) _).block _ (Array.getElem?_eq_some_iff.1 HNc.out).1).trans HNc.out))
                clear hown' hgrow hO4
                go_roundw
                case rel => exact ⟨k + 1, v', HKL.out, rfl, by go_num, HO5, HB5, HNc5, HQ5⟩
                case measure => have := HKL.out; simp [intOf]; omega
              · skip
                have hkm := HKM.out
                go_wp2_with (at_builtin; refine wpList_append_own _ rfl _ _ 26 rfl w6.heap.size 3 i0 (.int .i64 0) 1 8 Tryz.underlying26 hi0 hz0 hz1 hz2 rfl (by decide) _ _ _ rfl (World.ownsRow.alloc hO4 _) ⟨w8.heap.size, 0, none⟩ 1 1 [.int .i64 X] rfl rfl (fun j u h => cell_one' _ _ _ j u h) (by simp [Value.oneCell']) h63 hby (by simp; omega) ?_; intro v' w5 hown' hgrow _)
                have HB5 : Hid (Below w.heap.size w w5) := Lib.hid ((HB.out.alloc HB.out.size _).grown hgrow (by have := HB.out.size; simp; omega) (fun j e => Nat.le_trans HWB.out (World.ownsRow.lt hO4 j e).1))
                have HQ5 : Hid (BlC w6 w5) := Lib.hid ((Below.alloc HQ.out (Below.size HQ.out) _).grown hgrow (by simp; omega) (fun j e => (World.ownsRow.lt hO4 j e).1))
                have HO5 : Hid (OwI w5 w6.heap.size v' ((ks.take (k + 1)).map Ck.id)) := Lib.hid (by
                  rw [HIS.out]
                  unfold OwI
                  rw [List.length_append, List.map_append]; exact hown')
                have HNc5 := Lib.hid ((hgrow.block (w.heap.size) (by have := (Array.getElem?_eq_some_iff.1 HNc.out).1; simp; omega) (own_neJ hO4 HNc.out (by decide))).trans ((((Below.refl w8.heap.size w8).alloc (Nat.le_refl _) _).block _ (Array.getElem?_eq_some_iff.1 HNc.out).1).trans HNc.out))
                clear hown' hgrow hO4
                go_roundw
                case rel => exact ⟨k + 1, v', HKL.out, rfl, by go_num, HO5, HB5, HNc5, HQ5⟩
                case measure => have := HKL.out; simp [intOf]; omega
    · obtain rfl : k = ks.length := by omega
      rw [List.take_length] at HOI
      have HIL := Lib.hid (show (ks.map Ck.id).length ≤ 9223372036854775807 by rw [List.length_map]; omega)
      have HRI := Lib.hid (HOI.out.row)
      have hk1 : ¬ (ks.length : Int) < ks.length := by omega
      clear hkl hk hm HOI
      clear HQ
      have zc0 := cellH HNc.out 0
      have zc1 := cellH HNc.out 1
      simp only [List.getElem?_toArray, List.getElem?_cons_zero, List.getElem?_cons_succ] at zc0 zc1
      go_wp2_with fail
      refine (HWO.out _ _ _ HB.out HRI.out HIL.out).mono ?_
      rintro e w9 ⟨hb, _, hw⟩
      clear zc0 zc1
      replace HB := Lib.hid (HB.out.trans (hb.mono HB.out.size))
      replace HNc := Lib.hid ((hb.block _ (Array.getElem?_eq_some_iff.1 HNc.out).1).trans HNc.out)
      clear hb HRI hk1
      obtain ⟨va, vb, rfl, hr1, hr2⟩ := hw HWA.out
      obtain ⟨pa, pb, rfl, _⟩ := hr1.form
      rw [wo_all] at hr2
      obtain ⟨qa, qb, rfl, _⟩ := hr2.form
      have HLC1 := Lib.hid (fun w' h1 h2 => HLC.out (.slice pa cs.length pb) (.slice qa ([] : List Ck).length qb) [] w' h1 h2 (by simp) HO.out.n)
      have hc1 := HCF.out (ks.map Ck.id)
      rw [wo_all] at hc1
      rw [hc1, pairs_none] at HLC1
      have HR1 := Lib.hid hr1
      have HR2 := Lib.hid hr2
      clear hw hr1 hr2 hc1
      obtain ⟨ZN, hZN⟩ : ∃ q, ([] : List Ck).length = q := ⟨_, rfl⟩
      rw [hZN] at HLC1 HR2 ⊢
      clear hZN
      have hAlc : Below w9.heap.size w9 (w9.alloc (.cells #[.slice pa cs.length pb, .slice qa ZN qb] 25)) := (Below.refl _ w9).alloc (Nat.le_refl _) _
      have HSso : Hid (w.heap.size ≤ w9.heap.size) := Lib.hid HB.out.size
      have HNso : Hid ((w9.alloc (.cells #[.slice pa cs.length pb, .slice qa ZN qb] 25)).heap[w9.heap.size]? = some (.cells #[.slice pa cs.length pb, .slice qa ZN qb] 25 (0, 0))) := Lib.hid (heap_alloc_new _ _)
      replace HB := Lib.hid (HB.out.trans (hAlc.mono HB.out.size))
      have HXc_so : Hid (w.heap.size ≠ w9.heap.size) := Lib.hid (Nat.ne_of_lt (Array.getElem?_eq_some_iff.1 HNc.out).1)
      replace HNc := Lib.hid ((hAlc.block _ (Array.getElem?_eq_some_iff.1 HNc.out).1).trans HNc.out)
      replace HR1 := Lib.hid (HR1.out.keep hAlc)
      replace HR2 := Lib.hid (HR2.out.keep hAlc)
      obtain ⟨aso, haso⟩ : ∃ qq, w9.alloc (.cells #[.slice pa cs.length pb, .slice qa ZN qb] 25) = qq := ⟨_, rfl⟩
      obtain ⟨bkso, hbso⟩ : ∃ qq, w9.heap.size = qq := ⟨_, rfl⟩
      rw [haso] at HB HNso HNc HR1 HR2
      rw [hbso] at HNso HSso HXc_so
      clear hAlc
      have zso0 := cellH HNso.out 0
      have zso1 := cellH HNso.out 1
      simp only [List.getElem?_toArray, List.getElem?_cons_zero, List.getElem?_cons_succ] at zso0 zso1
      go_wp2_with fail
      try clear haso hbso
      refine (HLC1.out _ HR1.out HR2.out).mono ?_
      rintro e w10 ⟨hb, _, h2⟩
      obtain ⟨mv, rfl, hmr⟩ := h2 (by trivial)
      clear zso0 zso1
      replace HB := Lib.hid (HB.out.trans (hb.mono HB.out.size))
      replace HNc := Lib.hid ((hb.block _ (Array.getElem?_eq_some_iff.1 HNc.out).1).trans HNc.out)
      replace HNso := Lib.hid ((hb.block _ (Array.getElem?_eq_some_iff.1 HNso.out).1).trans HNso.out)
      replace HR1 := Lib.hid (HR1.out.keep hb)
      replace HR2 := Lib.hid (HR2.out.keep hb)
      clear hb HR1 HR2 HLC1 h2
      obtain ⟨ma, mb, rfl, _⟩ := hmr.form
      clear hmr
      have zc0 := cellH HNc.out 0
      have zc1 := cellH HNc.out 1
      simp only [List.getElem?_toArray, List.getElem?_cons_zero, List.getElem?_cons_succ] at zc0 zc1
      go_wp2_with fail
      refine (H5.out _).mono ?_
      rintro e w11 ⟨rfl, hb⟩
      clear zc0 zc1
      replace HB := Lib.hid (HB.out.trans (hb.mono HB.out.size))
      replace HNc := Lib.hid ((hb.block _ (Array.getElem?_eq_some_iff.1 HNc.out).1).trans HNc.out)
      replace HNso := Lib.hid ((hb.block _ (Array.getElem?_eq_some_iff.1 HNso.out).1).trans HNso.out)
      clear hb
      go_wp2_with fail
      go_ret
      exact ⟨rfl, HB.out⟩
end Go.Proofs.YtebdboacmeafaaaGreat
