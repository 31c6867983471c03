/- Package circle: Suspects. -/
import Derived.Test.YtebdboacmeafaaaGreatCG8
import Derived.Test.YtebdboacmeafaaaGreatCDC
set_option linter.unusedVariables false
set_option linter.unusedSimpArgs false
namespace Go.Proofs.YtebdboacmeafaaaGreat
open Go Go.RowKit

/-- A world that has grown out of another one. -/
def BlI (A W : World) : Prop := Below A.heap.size A W
theorem BlI.keep {A W C : World} (h : BlI A W) (hb : Below W.heap.size W C) : BlI A C := Below.trans h (hb.mono (Below.size h))
theorem tCS9 : (25 : TypeId) ≠ 3 := by decide
/-- What Suspects answers. -/
def SuOut (L : List Int) (E : Int) (w : World) (e : Ending) (w' : World) : Prop := ∃ v, e = .returned (.tuple #[v, .int .i64 E]) ∧ INRow w' v L ∧ Below w.heap.size w w'
theorem any_not (L : List Pi2) (i : Int) : (L.any fun p => p.1 != i && p.2 != i) = !susB L i := by
  unfold susB
  induction L with
  | nil => rfl
  | cons a L ih =>
    rw [List.any_cons, List.all_cons, ih]
    unfold hasI
    cases h1 : (a.1 == i) <;> cases h2 : (a.2 == i) <;> simp [bne, h1, h2]
set_option maxRecDepth 100000 in
set_option maxHeartbeats 8000000 in
theorem Suspects_any (v1 v2 : Value) (cs : List Ci) (ks : List Ck) (w : World) (hv1 : CiRow w v1 cs) (hv2 : CkRow w v2 ks) (hl1 : cs.length ≤ 9223372036854775807) (hl2 : ks.length ≤ 9223372036854775807) :
    Calls Tryz.prog 27 #[.agg #[v1, v2]] w fun e w' => SuOut (suS cs ks) (ccE cs ks) w e w' := by
  obtain ⟨a1, c1, rfl, _⟩ := hv1.form
  obtain ⟨a2, c2, rfl, hc2⟩ := hv2.form
  have HC := Lib.hid hc2
  have HCL := Lib.hid (fun w' (h : Below w.heap.size w w') => Clashes_any (.slice a1 cs.length c1) (.slice a2 ks.length c2) cs ks w' (hv1.keep h) (hv2.keep h) hl1 hl2)
  have HOK := Lib.hid (ccE_ok (cs := cs) (ks := ks))
  have HLK := Lib.hid (fun (h : CcOk cs ks) => clK_len h cs.length (Nat.le_refl _))
  have HS1 : Hid (ccE cs ks ≠ 0 → suS cs ks = []) := Lib.hid (fun h => by unfold suS; rw [if_neg h])
  have HS2 : Hid (ccE cs ks = 0 → (clK cs ks cs.length).length = 0 → suS cs ks = []) := Lib.hid (fun h h2 => by unfold suS; rw [if_pos h, if_pos h2])
  have HS3 : Hid (ccE cs ks = 0 → ¬ (clK cs ks cs.length).length = 0 → suS cs ks = (suF (clK cs ks cs.length) ks ks.length).mergeSort (fun x y => decide (x ≤ y))) := Lib.hid (fun h h2 => by unfold suS; rw [if_pos h, if_neg h2, suR_sort])
  unfold ClOut at HCL
  obtain ⟨SS, hSS⟩ : ∃ z, suS cs ks = z := ⟨_, rfl⟩
  obtain ⟨L, hL⟩ : ∃ z, clK cs ks cs.length = z := ⟨_, rfl⟩
  obtain ⟨E, hE⟩ : ∃ z, ccE cs ks = z := ⟨_, rfl⟩
  rw [hSS, hE] at HS1
  rw [hSS, hE, hL] at HS2 HS3
  rw [hE, hL] at HCL
  rw [hE] at HOK ⊢
  rw [hL] at HLK
  rw [hSS]
  clear hE hL hSS hc2 hv1 hv2
  obtain ⟨i0, hi0, hz0, hz1, hz2⟩ := info_parts info_in1
  obtain ⟨x0, xlt, xb⟩ := cells1 w #[.slice a1 cs.length c1, .slice a2 ks.length c2] 25 (Below.refl _ _)
  have HNc : Hid ((w.alloc (.cells #[.slice a1 cs.length c1, .slice a2 ks.length c2] 25)).heap[w.heap.size]? = some (.cells #[.slice a1 cs.length c1, .slice a2 ks.length c2] 25 (0, 0))) := Lib.hid x0
  have HB : Hid (Below w.heap.size w (w.alloc (.cells #[.slice a1 cs.length c1, .slice a2 ks.length c2] 25))) := Lib.hid xb
  obtain ⟨Z, hZ⟩ : ∃ Z, (w.alloc (.cells #[.slice a1 cs.length c1, .slice a2 ks.length c2] 25)) = Z := ⟨_, rfl⟩
  rw [hZ] at HB HNc
  have HZ := Lib.hid hZ
  clear hZ xlt xb x0
  go_enter Tryz.func27, Tryz.ntmps27
  go_wp2_with fail
  rw [HZ.out]
  refine (HCL.out _ HB.out).mono ?_
  rintro e w1 ⟨hb, h1, h2⟩
  replace HB := Lib.hid (HB.out.trans (hb.mono HB.out.size))
  replace HNc := Lib.hid ((hb.block _ (Array.getElem?_eq_some_iff.1 HNc.out).1).trans HNc.out)
  clear hb
  by_cases h0 : E = 0
  case neg =>
    have he := h1 h0
    subst he
    have HN := Lib.hid (HS1.out h0)
    clear h0 h1 h2
    go_wp2_with fail
    go_ret2
    exact ⟨_, rfl, by rw [HN.out]; exact .inl ⟨_, _, rfl, rfl⟩, HB.out⟩
  have HO := Lib.hid (HOK.out h0)
  obtain ⟨v, he, hP⟩ := h2 h0
  subst he
  replace HS2 := Lib.hid (HS2.out h0)
  replace HS3 := Lib.hid (HS3.out h0)
  have HLL := Lib.hid (HLK.out HO.out)
  subst h0
  clear h1 h2 HS1 HOK HLK
  obtain ⟨pa, pc, rfl, _⟩ := hP.form
  have HP := Lib.hid hP
  have HW1 := Lib.hid HB.out.size
  have HQ : Hid (BlI w1 w1) := Lib.hid (Below.refl w1.heap.size w1)
  clear hP
  by_cases hg : L.length = 0
  case pos =>
    have HN := Lib.hid (HS2.out hg)
    have gL : ((L.length : Int) == 0) = true := by rw [hg]; rfl
    clear hg
    go_wp2_with fail
    go_ret2
    exact ⟨_, rfl, by rw [HN.out]; exact .inl ⟨_, _, rfl, rfl⟩, HB.out⟩
  have HN := Lib.hid (HS3.out hg)
  have gL : ((L.length : Int) == 0) = false := by simpa using (by omega : ¬ (L.length : Int) = 0)
  have HOW : Hid (OwI w1 w1.heap.size (.slice none 0 0) (suF L ks 0)) := Lib.hid ⟨rfl, .inl ⟨rfl, rfl⟩⟩
  clear hg
  have zc0 := cellH HNc.out 0
  have zc1 := cellH HNc.out 1
  simp only [List.getElem?_toArray, List.getElem?_cons_zero, List.getElem?_cons_succ] at zc0 zc1
  go_wp2_with fail
  clear zc0 zc1
  go_loopw [6, 22] (fun x i wr => ∃ (k : Nat) (o : Value), k ≤ ks.length ∧ x = o ∧ i = .int .i64 k ∧ Hid (OwI wr w1.heap.size o (suF L ks k)) ∧ Hid (Below w.heap.size w wr) ∧ Hid (wr.heap[w.heap.size]? = some (.cells #[.slice a1 cs.length c1, .slice a2 ks.length c2] 25 (0, 0))) ∧ Hid (BlI w1 wr)) (fun _ i _ => ks.length - (intOf i).toNat)
  case atStart => exact ⟨0, _, Nat.zero_le _, rfl, rfl, HOW, HB, HNc, HQ⟩
  case round =>
    clear HB HNc HQ
    clear HOW
    obtain ⟨k, o, hk, hx5, rfl, HOW, HB, HNc, HQ⟩ := hrel
    have hx5 := hx5.symm
    subst hx5
    have hm := HO.out.m
    by_cases hkl : k < ks.length
    · obtain ⟨b, off, rfl, hb, hat⟩ := HC.out k hkl
      obtain ⟨e0, e1, e2, e3, e4, e5, e6⟩ := hat.keep HB.out hb
      have hki : (k : Int) < ks.length := by omega
      have hk0 : (0 : Int) ≤ k := by omega
      have HKL := Lib.hid hkl
      have HST := Lib.hid (suF_step (L := L) hkl)
      have hln := suF_len L ks k
      obtain ⟨X, hX⟩ : ∃ X, ks.getD k .nil = X := ⟨_, rfl⟩
      rw [hX] at e0 e1 e2 e3 e4 e5 e6 HST
      obtain ⟨k0, k1, k2, k3, k4, k5, k6⟩ := X
      simp only at e0 e1 e2 e3 e4 e5 e6 HST
      have HAN := Lib.hid (any_not L k0)
      obtain ⟨SB, hSB⟩ : ∃ q, susB L k0 = q := ⟨_, rfl⟩
      rw [hSB] at HST HAN
      obtain ⟨FL, hFL⟩ : ∃ q, suF L ks k = q := ⟨_, rfl⟩
      rw [hFL] at HST HOW hln
      clear hX hat hb hSB hFL
      have hAlc : Below wr.heap.size wr (wr.alloc (.cells #[.int .i64 k0, .int .i64 k1, .int .i64 k2, .int .i64 k3, .int .i64 k4, .int .i64 k5, .int .i64 k6] 67)) := (Below.refl _ wr).alloc (Nat.le_refl _) _
      have HSd : Hid (w.heap.size ≤ wr.heap.size) := Lib.hid HB.out.size
      have HNd : Hid ((wr.alloc (.cells #[.int .i64 k0, .int .i64 k1, .int .i64 k2, .int .i64 k3, .int .i64 k4, .int .i64 k5, .int .i64 k6] 67)).heap[wr.heap.size]? = some (.cells #[.int .i64 k0, .int .i64 k1, .int .i64 k2, .int .i64 k3, .int .i64 k4, .int .i64 k5, .int .i64 k6] 67 (0, 0))) := Lib.hid (heap_alloc_new _ _)
      replace HB := Lib.hid (HB.out.trans (hAlc.mono HB.out.size))
      have HXc_d : Hid (w.heap.size ≠ wr.heap.size) := Lib.hid (Nat.ne_of_lt (Array.getElem?_eq_some_iff.1 HNc.out).1)
      replace HNc := Lib.hid ((hAlc.block _ (Array.getElem?_eq_some_iff.1 HNc.out).1).trans HNc.out)
      replace HQ := Lib.hid (HQ.out.keep hAlc)
      replace HOW := Lib.hid (HOW.out.keep hAlc)
      obtain ⟨ad, had⟩ : ∃ qq, wr.alloc (.cells #[.int .i64 k0, .int .i64 k1, .int .i64 k2, .int .i64 k3, .int .i64 k4, .int .i64 k5, .int .i64 k6] 67) = qq := ⟨_, rfl⟩
      obtain ⟨bkd, hbd⟩ : ∃ qq, wr.heap.size = qq := ⟨_, rfl⟩
      rw [had] at HB HNd HNc HQ HOW
      rw [hbd] at HNd HSd HXc_d
      clear hAlc
      have zd0 := cellH HNd.out 0
      have zd1 := cellH HNd.out 1
      have zd2 := cellH HNd.out 2
      have zd3 := cellH HNd.out 3
      have zd4 := cellH HNd.out 4
      have zd5 := cellH HNd.out 5
      have zd6 := cellH HNd.out 6
      simp only [List.getElem?_toArray, List.getElem?_cons_zero, List.getElem?_cons_succ] at zd0 zd1 zd2 zd3 zd4 zd5 zd6
      have HCT := Lib.hid (ctf_any (.slice pa L.length pc) L 82 (.pointer (some ⟨bkd, 0, none⟩)) (fun p => p.1 != k0 && p.2 != k0) ad (HP.out.keep HQ.out) (by have := HLL.out; have := HO.out.n; omega) (enters_of Tryz.func82 (by kernel_rfl) rfl) (fun w' x hb hx => sus1_any x.1 x.2 k0 k1 k2 k3 k4 k5 k6 bkd w' ((hb.block _ (Array.getElem?_eq_some_iff.1 HNd.out).1).trans HNd.out)))
      rw [HAN.out] at HCT
      go_wp2_with fail
      try clear had hbd
      refine HCT.out.mono ?_
      rintro e w9 ⟨rfl, hb⟩
      clear zd0 zd1 zd2 zd3 zd4 zd5 zd6
      clear e0 e1 e2 e3 e4 e5 e6 HCT
      replace HB := Lib.hid (HB.out.trans (hb.mono HB.out.size))
      replace HNc := Lib.hid ((hb.block _ (Array.getElem?_eq_some_iff.1 HNc.out).1).trans HNc.out)
      replace HNd := Lib.hid ((hb.block _ (Array.getElem?_eq_some_iff.1 HNd.out).1).trans HNd.out)
      replace HQ := Lib.hid (HQ.out.keep hb)
      replace HOW := Lib.hid (HOW.out.keep hb)
      clear hb
      have zd0 := cellH HNd.out 0
      have zd1 := cellH HNd.out 1
      have zd2 := cellH HNd.out 2
      have zd3 := cellH HNd.out 3
      have zd4 := cellH HNd.out 4
      have zd5 := cellH HNd.out 5
      have zd6 := cellH HNd.out 6
      simp only [List.getElem?_toArray, List.getElem?_cons_zero, List.getElem?_cons_succ] at zd0 zd1 zd2 zd3 zd4 zd5 zd6
      cases SB
      · have HN2 : Hid (suF L ks (k + 1) = FL) := Lib.hid (by rw [HST.out]; rfl)
        go_wp2_with fail
        go_roundw
        case rel => exact ⟨k + 1, o, HKL.out, rfl, by go_num, Lib.hid (by rw [HN2.out]; exact HOW.out), HB, HNc, HQ⟩
        case measure => have := HKL.out; simp [intOf]; omega
      · have HN2 : Hid (suF L ks (k + 1) = FL ++ [k0]) := Lib.hid (by rw [HST.out]; rfl)
        have h63 : FL.length + 1 ≤ maxLen := by unfold maxLen; omega
        have hby : (FL.length + 1) * 8 ≤ 140737488355328 := by omega
        have hbase : w1.heap.size ≤ w9.heap.size := Below.size HQ.out
        have hO4 := HOW.out
        unfold OwI at hO4
        go_wp2_with (at_builtin; refine wpList_append_own _ rfl _ _ 26 rfl w1.heap.size 3 i0 (.int .i64 0) 1 8 Tryz.underlying26 hi0 hz0 hz1 hz2 rfl (by decide) _ _ _ rfl (World.ownsRow.alloc hO4 _) ⟨w9.heap.size, 0, none⟩ 1 1 [.int .i64 k0] rfl rfl (fun j u h => cell_one' _ _ _ j u h) (by simp [Value.oneCell']) h63 hby (by simp; omega) ?_; intro v' w5 hown' hgrow _)
        have HB5 : Hid (Below w.heap.size w w5) := Lib.hid ((HB.out.alloc HB.out.size _).grown hgrow (by have := HB.out.size; simp; omega) (fun j e => Nat.le_trans HW1.out (World.ownsRow.lt hO4 j e).1))
        have HQ5 : Hid (BlI w1 w5) := Lib.hid ((Below.alloc HQ.out (Below.size HQ.out) _).grown hgrow (by simp; omega) (fun j e => (World.ownsRow.lt hO4 j e).1))
        have HO5 : Hid (OwI w5 w1.heap.size v' (suF L ks (k + 1))) := Lib.hid (by
          rw [HN2.out]
          unfold OwI
          rw [List.length_append, List.map_append]; exact hown')
        have HNc5 := Lib.hid ((hgrow.block w.heap.size (by have := (Array.getElem?_eq_some_iff.1 HNc.out).1; simp; omega) (own_neJ hO4 HNc.out tCS9)).trans ((((Below.refl w9.heap.size w9).alloc (Nat.le_refl _) _).block _ (Array.getElem?_eq_some_iff.1 HNc.out).1).trans HNc.out))
        clear hown' hgrow hO4
        go_roundw
        case rel => exact ⟨k + 1, v', HKL.out, rfl, by go_num, HO5, HB5, HNc5, HQ5⟩
        case measure => have := HKL.out; simp [intOf]; omega
    · obtain rfl : k = ks.length := by omega
      have HSR := Lib.hid (sortI_any wr w1.heap.size o (suF L ks ks.length) HOW.out (by have := suF_len L ks ks.length; omega))
      rw [← HN.out] at HSR
      have HLT := Lib.hid (fun j (e : o.ownBlock = some j) => Nat.le_trans HW1.out (World.ownsRow.lt HOW.out j e).1)
      have zc0 := cellH HNc.out 0
      have zc1 := cellH HNc.out 1
      simp only [List.getElem?_toArray, List.getElem?_cons_zero, List.getElem?_cons_succ] at zc0 zc1
      go_wp2_with fail
      refine HSR.out.mono ?_
      rintro e w8 ⟨rfl, ho, hgr⟩
      have HO8 := Lib.hid ho
      have HB8 := Lib.hid (HB.out.grown hgr HB.out.size HLT.out)
      clear ho hgr
      clear zc0 zc1
      go_wp2_with fail
      go_ret2
      exact ⟨_, rfl, HO8.out.row, HB8.out⟩
end Go.Proofs.YtebdboacmeafaaaGreat
