/- Seen of package ridge. -/
import Derived.Test.YtjllkmekchmmbaaHM1
set_option linter.unusedVariables false
set_option linter.unusedSimpArgs false
namespace Go.Proofs.Ytjllkmekchmmbaa
open Go Go.RowKit

theorem plI_on {wd hg : Int} {g : List Int} {i : Nat} (hm : vmB wd hg g = true) (hi : i < g.length) : onB wd hg (plI wd i) = true := by
  obtain ⟨a1, a2, a3, a4, a5, _⟩ := vmB_ok hm
  refine onB_mk ?_
  unfold plI
  simp only
  refine ⟨Int.emod_nonneg _ (by omega), Int.emod_lt_of_pos _ (by omega), Int.ediv_nonneg (by omega) (by omega), ?_⟩
  refine Int.ediv_lt_of_lt_mul (by omega) ?_
  rw [Int.mul_comm]; omega
theorem plN_get {wd : Int} {m i : Nat} (h : i < m) : (plN wd m).getD i (0, 0) = plI wd i := by
  unfold plN
  rw [List.getD_eq_getElem?_getD, List.getElem?_map, List.getElem?_range h]; rfl
theorem plN_take {wd : Int} {m k : Nat} (h : k ≤ m) : (plN wd m).take k = plN wd k := by
  unfold plN
  rw [← List.map_take, List.take_range, Nat.min_eq_left h]
theorem ct_ok {wd hg : Int} {g : List Int} {T : List Tw} {Z : List Hz} {id : Int} (h : ctE wd hg g T Z id = 0) : ckE wd hg g T Z = 0 ∧ (∃ t ∈ T, ctT wd hg g T Z id = t ∧ t.id = id) := by
  unfold ctE at h
  split at h
  case isFalse h1 => exact absurd h h1
  case isTrue h1 =>
    refine ⟨h1, ?_⟩
    unfold ctT
    rw [if_pos h1]
    cases q : twF T id with
    | none => rw [q] at h; simp at h
    | some t =>
      unfold twF at q
      exact ⟨t, List.mem_of_find?_eq_some q, rfl, by have := List.find?_some q; simpa using this⟩
/-- The first fault of Seen. -/
def seE (wd hg : Int) (g : List Int) (T : List Tw) (Z : List Hz) (id rise : Int) : Int := if ctE wd hg g T Z id = 0 then (if wiB rise 0 200 = true then 0 else 1) else ctE wd hg g T Z id
/-- The first places that a tower sees, or does not. -/
def seL (wd : Int) (g : List Int) (t : Tw) (rise : Int) (b : Bool) (m : Nat) : List Pl := (plN wd m).filter fun p => freeB g wd (t.x, t.y) t.h p rise == b
theorem seL_succ (wd : Int) (g : List Int) (t : Tw) (rise : Int) (b : Bool) (m : Nat) : seL wd g t rise b (m + 1) = seL wd g t rise b m ++ if (freeB g wd (t.x, t.y) t.h (plI wd m) rise == b) = true then [plI wd m] else [] := by
  unfold seL
  rw [plN_succ, List.filter_append]
  congr 1
  rw [List.filter_cons]
  split <;> rfl
theorem seL_len (wd : Int) (g : List Int) (t : Tw) (rise : Int) (b : Bool) (m : Nat) : (seL wd g t rise b m).length ≤ m := by
  unfold seL
  exact Nat.le_trans (List.length_filter_le _ _) (by rw [plN_len]; exact Nat.le_refl _)
set_option maxRecDepth 100000 in
set_option maxHeartbeats 4000000 in
theorem Seen_any (wd hg : Int) (o tv hv : Value) (g : List Int) (T : List Tw) (H : List Hz) (id rise : Int) (w : World) (ho : INRow w o g) (hl : g.length ≤ 9223372036854775807) (ht : TwRow w tv T) (htl : T.length ≤ 9223372036854775807) (hh : HzRow w hv H) (hhl : H.length ≤ 9223372036854775807) :
    Calls Try.prog 21 #[coV wd hg o tv hv, .int .i64 id, .int .i64 rise] w fun e w' => ∃ v', e = .returned (.tuple #[v', .int .i64 (seE wd hg g T H id rise)]) ∧ Below w.heap.size w w' ∧ (seE wd hg g T H id rise ≠ 0 → v' = .slice none 0 0) ∧
      (seE wd hg g T H id rise = 0 → w'.ownsRow w.heap.size 30 2 v' (seL wd g (ctT wd hg g T H id) rise true g.length).length ((seL wd g (ctT wd hg g T H id) rise true g.length).flatMap encP)) := by
  have HCT := Lib.hid (fun w' (h : Below w.heap.size w w') => checkTower_any wd hg o tv hv g T H id w' (ho.keep h) hl (ht.keep h) htl (hh.keep h) hhl)
  have HO := Lib.hid ho
  have HVT := Lib.hid (validTall_any rise)
  obtain ⟨oa, oc, rfl, _⟩ := ho.form
  obtain ⟨W1, hW1, hb0, hs1, hrd⟩ := co_reads w wd hg (.slice oa g.length oc) tv hv
  have HW1 := Lib.hid hW1; have HB0 := Lib.hid hb0; have HRD := Lib.hid hrd; have HS1 := Lib.hid hs1
  clear hW1 hb0 hrd hs1 ho ht hh hl htl hhl
  unfold coV at HCT
  unfold coV
  by_cases hE : ctE wd hg g T H id = 0
  case neg =>
    have HE0 : Hid (seE wd hg g T H id rise = ctE wd hg g T H id) := Lib.hid (by unfold seE; rw [if_neg hE])
    rw [HE0.out]
    obtain ⟨⟨ti, tx, ty, th⟩, htt⟩ : ∃ x, ctT wd hg g T H id = x := ⟨_, rfl⟩
    rw [htt] at HCT ⊢
    obtain ⟨E, hEe⟩ : ∃ x, ctE wd hg g T H id = x := ⟨_, rfl⟩
    rw [hEe] at hE HCT ⊢
    simp only at HCT
    have HNE := Lib.hid hE
    have qe : (E != 0) = true := by simpa using hE
    clear hE hEe HE0 htt
    go_enter Try.func21, Try.ntmps21
    go_wp2_with fail
    rw [← HW1.out]
    obtain ⟨q0, q1, q2, q3, q4⟩ := HRD.out W1 (Below.refl _ _)
    go_wp2_with fail
    refine (HCT.out _ HB0.out).mono ?_
    rintro e w2 ⟨rfl, hb2⟩
    have HB2 := Lib.hid (HB0.out.trans (hb2.mono HB0.out.size))
    have HB3 := Lib.hid (HB2.out.alloc HB2.out.size (.cells #[.int .i64 ti, .int .i64 tx, .int .i64 ty, .int .i64 th] 73))
    clear hb2 q0 q1 q2 q3 q4
    go_wp2_with fail
    go_ret2
    exact ⟨_, rfl, HB3.out, fun _ => rfl, fun h => absurd h HNE.out⟩
  have HE0 : Hid (seE wd hg g T H id rise = if wiB rise 0 200 = true then 0 else 1) := Lib.hid (by unfold seE; rw [if_pos hE])
  rw [HE0.out]
  obtain ⟨hck, t, htm, hte, hti⟩ := ct_ok hE
  obtain ⟨hm, _, _, hok, _, _⟩ := ckE_ok hck
  have HOK := Lib.hid (hok t htm)
  have HM := Lib.hid hm
  rw [hte, hE] at HCT
  rw [hte]
  obtain ⟨ti, tx, ty, th⟩ := t
  simp only at HCT
  clear hE HE0 hck htm hte hti hok
  cases qr : wiB rise 0 200
  · rw [qr] at HVT
    clear qr hm
    go_enter Try.func21, Try.ntmps21
    go_wp2_with fail
    rw [← HW1.out]
    obtain ⟨q0, q1, q2, q3, q4⟩ := HRD.out W1 (Below.refl _ _)
    go_wp2_with fail
    refine (HCT.out _ HB0.out).mono ?_
    rintro e w2 ⟨rfl, hb2⟩
    have HB2 := Lib.hid (HB0.out.trans (hb2.mono HB0.out.size))
    have HB3 := Lib.hid (HB2.out.alloc HB2.out.size (.cells #[.int .i64 ti, .int .i64 tx, .int .i64 ty, .int .i64 th] 73))
    clear hb2 q0 q1 q2 q3 q4
    go_wp2_with fail
    refine (HVT.out _).mono ?_
    rintro e w3 ⟨rfl, rfl⟩
    go_wp2_with fail
    go_ret2
    exact ⟨rfl, HB3.out⟩
  rw [qr] at HVT
  have HRI : Hid (0 ≤ rise ∧ rise ≤ 200) := Lib.hid (by unfold wiB at qr; simpa using qr)
  have hgm : g.length ≤ 2401 := by
    obtain ⟨a1, a2, a3, a4, a5, _⟩ := vmB_ok hm
    have h1 : wd * hg ≤ 49 * 49 := Int.mul_le_mul a2 a4 (by omega) (by omega)
    omega
  have HPL := Lib.hid (fun w' (h : Below w.heap.size w w') => places_any wd hg (.slice oa g.length oc) g w' (HO.out.keep h) hm)
  clear qr hm
  go_enter Try.func21, Try.ntmps21
  go_wp2_with fail
  rw [← HW1.out]
  obtain ⟨q0, q1, q2, q3, q4⟩ := HRD.out W1 (Below.refl _ _)
  go_wp2_with fail
  refine (HCT.out _ HB0.out).mono ?_
  rintro e w2 ⟨rfl, hb2⟩
  have HD2 := Lib.hid hb2
  have HYB := Lib.hid (hb2.alloc hb2.size (.cells #[.int .i64 ti, .int .i64 tx, .int .i64 ty, .int .i64 th] 73))
  have HYR : Hid ((w2.alloc (.cells #[.int .i64 ti, .int .i64 tx, .int .i64 ty, .int .i64 th] 73)).heap[w2.heap.size]? = some (.cells #[.int .i64 ti, .int .i64 tx, .int .i64 ty, .int .i64 th] 73 (0, 0))) := Lib.hid (heap_alloc_new _ _)
  clear hb2 q0 q1 q2 q3 q4
  go_wp2_with fail
  obtain ⟨W3, hW3⟩ : ∃ X, w2.alloc (.cells #[.int .i64 ti, .int .i64 tx, .int .i64 ty, .int .i64 th] 73) = X := ⟨_, rfl⟩
  rw [hW3] at HYB HYR ⊢
  obtain ⟨s2, hs2⟩ : ∃ s, w2.heap.size = s := ⟨_, rfl⟩
  rw [hs2] at HYR ⊢
  have HB3 := Lib.hid (HB0.out.trans (HYB.out.mono HB0.out.size))
  clear hW3 hs2
  refine (HVT.out _).mono ?_
  rintro e w4 ⟨rfl, rfl⟩
  obtain ⟨q0, q1, q2, q3, q4⟩ := HRD.out w4 HYB.out
  go_wp2_with fail
  refine (HPL.out _ HB3.out).mono ?_
  rintro e w5 ⟨v5, rfl, hb5, hown⟩
  have hown2 : w5.ownsRow w4.heap.size 30 2 v5 (plN wd g.length).length ((plN wd g.length).flatMap encP) := by rw [plN_len]; exact hown
  have HPR := Lib.hid (PlRow.of_own hown2)
  have HD5 := Lib.hid (HYB.out.trans (hb5.mono HYB.out.size))
  have HB5 := Lib.hid (HB0.out.trans (HD5.out.mono HB0.out.size))
  have HT5 := Lib.hid ((hb5.block _ (Array.getElem?_eq_some_iff.1 HYR.out).1).trans HYR.out)
  obtain ⟨pa, pc, rfl, hpc⟩ := HPR.out.form
  rw [plN_len] at hpc ⊢
  have HPC := Lib.hid hpc
  obtain ⟨i0, hi0, hz0, hz1, hz2⟩ := info_parts info_pl3
  clear hb5 hown hown2 hpc HPR q0 q1 q2 q3 q4
  go_wp2_with fail
  go_loopw [10, 29] (fun v i wr => ∃ (k : Nat), k ≤ g.length ∧ i = .int .i64 k ∧ Hid (Below w5.heap.size w5 wr) ∧ Hid (wr.ownsRow w5.heap.size 30 2 v (seL wd g ⟨ti, tx, ty, th⟩ rise true k).length ((seL wd g ⟨ti, tx, ty, th⟩ rise true k).flatMap encP))) (fun _ i _ => g.length - (intOf i).toNat)
  case atStart => exact ⟨0, Nat.zero_le _, rfl, Lib.hid (Below.refl _ _), Lib.hid (World.ownsRow_nil _ _ _ _)⟩
  case round =>
    obtain ⟨k, hk, rfl, hB, hO⟩ := hrel
    have HDR := Lib.hid (HD5.out.trans (hB.out.mono HD5.out.size))
    have HBR := Lib.hid (HB5.out.trans (hB.out.mono HB5.out.size))
    by_cases hkl : k < g.length
    · obtain ⟨pb, po, rfl, _, hpb, c0, c1⟩ := HPC.out k hkl
      have hki : (k : Int) < g.length := by omega
      have hk0 : (0 : Int) ≤ k := by omega
      rw [plN_get hkl] at c0 c1
      have HON := Lib.hid (plI_on HM.out hkl)
      have HSS := Lib.hid (seL_succ wd g ⟨ti, tx, ty, th⟩ rise true k)
      have HLN := Lib.hid (seL_len wd g ⟨ti, tx, ty, th⟩ rise true k)
      obtain ⟨⟨x, y⟩, hxy⟩ : ∃ q, plI wd k = q := ⟨_, rfl⟩
      rw [hxy] at c0 c1 HON HSS
      simp only at c0 c1
      have e0 := (hB.out.cell (p := ⟨pb, _, none⟩) hpb).trans c0
      have e1 := (hB.out.cell (p := ⟨pb, _, none⟩) hpb).trans c1
      have HZB := Lib.hid (hB.out.alloc hB.out.size (.cells #[.int .i64 x, .int .i64 y] 30))
      have HZR : Hid ((wr.alloc (.cells #[.int .i64 x, .int .i64 y] 30)).heap[wr.heap.size]? = some (.cells #[.int .i64 x, .int .i64 y] 30 (0, 0))) := Lib.hid (heap_alloc_new _ _)
      have HZO := Lib.hid (hO.out.alloc (.cells #[.int .i64 x, .int .i64 y] 30))
      have HZT := Lib.hid ((HZB.out.block _ (Array.getElem?_eq_some_iff.1 HT5.out).1).trans HT5.out)
      have hb1 := HDR.out.trans (((Below.refl _ wr).alloc (Nat.le_refl _) (.cells #[.int .i64 x, .int .i64 y] 30)).mono HDR.out.size)
      have HZW := Lib.hid (HBR.out.trans (((Below.refl _ wr).alloc (Nat.le_refl _) (.cells #[.int .i64 x, .int .i64 y] 30)).mono HBR.out.size))
      obtain ⟨q0, q1, q2, q3, q4⟩ := HRD.out _ hb1
      have r0 := cellH HZR.out 0
      have r1 := cellH HZR.out 1
      have t1 := cellH HZT.out 1
      have t2 := cellH HZT.out 2
      have t3 := cellH HZT.out 3
      simp only [List.getElem?_toArray, List.getElem?_cons_zero, List.getElem?_cons_succ] at r0 r1 t1 t2 t3
      clear c0 c1 hxy hpb hb1
      have HFR : Hid (∀ w', Below w.heap.size w w' → Calls Try.prog 61 #[.agg #[.int .i64 wd, .int .i64 hg, .slice oa g.length oc], .agg #[.int .i64 tx, .int .i64 ty], .int .i64 th, .agg #[.int .i64 x, .int .i64 y], .int .i64 rise] w' fun e w'' => e = .returned (.bool (freeB g wd (tx, ty) th (x, y) rise)) ∧ Below w'.heap.size w' w'') := Lib.hid (fun w' h => by
        have hok := HOK.out
        have h2 := hok.2.2
        unfold wiB at h2
        simp only [Bool.and_eq_true, decide_eq_true_eq] at h2
        have := free_any wd hg (.slice oa g.length oc) g (tx, ty) (x, y) th rise w' (HO.out.keep h) HM.out hok.2.1 HON.out h2 HRI.out
        unfold mpV plV at this
        exact this)
      simp only at HSS
      obtain ⟨fb, hfb⟩ : ∃ b, freeB g wd (tx, ty) th (x, y) rise = b := ⟨_, rfl⟩
      rw [hfb] at HFR HSS
      clear hfb
      go_wp2_with fail
      refine (HFR.out _ HZW.out).mono ?_
      rintro e w6 ⟨rfl, hb6⟩
      have HB6 := Lib.hid (HZB.out.trans (hb6.mono HZB.out.size))
      have HO6 := Lib.hid (own_below HZO.out hb6)
      have hr6 := (hb6.block _ (Array.getElem?_eq_some_iff.1 HZR.out).1).trans HZR.out
      have s0 := cellH hr6 0
      have s1 := cellH hr6 1
      simp only [List.getElem?_toArray, List.getElem?_cons_zero, List.getElem?_cons_succ] at s0 s1
      clear hb6 hr6 q0 q1 q2 q3 q4 r0 r1 t1 t2 t3 e0 e1
      cases fb
      · have HN : Hid (seL wd g ⟨ti, tx, ty, th⟩ rise true (k + 1) = seL wd g ⟨ti, tx, ty, th⟩ rise true k) := Lib.hid (by rw [HSS.out]; simp)
        clear s0 s1
        go_wp2_with fail
        go_roundw
        case rel => exact ⟨k + 1, by omega, by go_num, HB6, Lib.hid (by rw [HN.out]; exact HO6.out)⟩
        case measure => simp [intOf]; omega
      · have HN : Hid (seL wd g ⟨ti, tx, ty, th⟩ rise true (k + 1) = seL wd g ⟨ti, tx, ty, th⟩ rise true k ++ [(x, y)]) := Lib.hid (by rw [HSS.out]; simp)
        obtain ⟨sl, hsl⟩ : ∃ l, seL wd g ⟨ti, tx, ty, th⟩ rise true k = l := ⟨_, rfl⟩
        rw [hsl] at HN HO6 HLN
        have hlen := HLN.out
        have h63 : sl.length + 1 ≤ maxLen := by unfold maxLen; omega
        have hby : (sl.length + 1) * 16 ≤ 140737488355328 := by omega
        have hbase : w5.heap.size ≤ w6.heap.size := HB6.out.size
        have hO6 := HO6.out
        clear hsl hlen
        go_wp2_with (at_builtin; refine wpList_append_own _ rfl _ _ 42 rfl w5.heap.size 30 i0 (.agg #[.int .i64 0, .int .i64 0]) 2 16 Try.underlying42 hi0 hz0 hz1 hz2 rfl (by decide) _ _ _ rfl (World.ownsRow.alloc hO6 _) ⟨w6.heap.size, 0, none⟩ 1 1 [.int .i64 x, .int .i64 y] rfl rfl (fun j u h => cell_two' _ _ _ _ j u h) (by simp [Value.oneCell']) h63 hby (by simp; omega) ?_; intro v' w7 hown' hgrow _)
        have HB7 : Hid (Below w5.heap.size w5 w7) := Lib.hid ((HB6.out.alloc hbase _).grown hgrow (by simp; omega) (fun j e => (World.ownsRow.lt hO6 j e).1))
        have HO7 : Hid (w7.ownsRow w5.heap.size 30 2 v' (seL wd g ⟨ti, tx, ty, th⟩ rise true (k + 1)).length ((seL wd g ⟨ti, tx, ty, th⟩ rise true (k + 1)).flatMap encP)) := Lib.hid (by
          rw [HN.out, List.length_append, List.flatMap_append]; exact hown')
        clear hown' hgrow hO6 s0 s1
        go_wp2_with fail
        go_roundw
        case rel => exact ⟨k + 1, by omega, by go_num, HB7, HO7⟩
        case measure => simp [intOf]; omega
    · obtain rfl : k = g.length := by omega
      go_wp2_with fail
      go_ret2
      exact ⟨_, rfl, HBR.out, own_base hO.out HB5.out.size⟩
end Go.Proofs.Ytjllkmekchmmbaa

/-! Dead of package ridge. -/
set_option linter.unusedVariables false
set_option linter.unusedSimpArgs false
namespace Go.Proofs.Ytjllkmekchmmbaa
open Go Go.RowKit

theorem plI_inj {wd : Int} {i j : Nat} (h : plI wd i = plI wd j) : i = j := by
  unfold plI at h
  have h1 := congrArg Prod.fst h
  have h2 := congrArg Prod.snd h
  simp only at h1 h2
  have e1 := Int.mul_ediv_add_emod (i : Int) wd
  have e2 := Int.mul_ediv_add_emod (j : Int) wd
  rw [h1, h2] at e1
  omega
/-- What a tower sees of the places behind the first ones. -/
def seD (wd : Int) (g : List Int) (t : Tw) (rise : Int) (n k : Nat) : List Pl := ((plN wd n).drop k).filter fun p => freeB g wd (t.x, t.y) t.h p rise == true
theorem seD_zero (wd : Int) (g : List Int) (t : Tw) (rise : Int) (n : Nat) : seD wd g t rise n 0 = seL wd g t rise true n := by unfold seD seL; rw [List.drop_zero]
theorem seD_step {wd : Int} {g : List Int} {t : Tw} {rise : Int} {n k : Nat} (h : k < n) : seD wd g t rise n k = (if freeB g wd (t.x, t.y) t.h (plI wd k) rise = true then [plI wd k] else []) ++ seD wd g t rise n (k + 1) := by
  unfold seD
  have hk : k < (plN wd n).length := by rw [plN_len]; exact h
  have e : (plN wd n)[k] = plI wd k := by
    have := plN_get (wd := wd) h
    rw [List.getD_eq_getElem?_getD, List.getElem?_eq_getElem hk] at this
    exact this
  rw [List.drop_eq_getElem_cons hk, e, List.filter_cons]
  by_cases q : freeB g wd (t.x, t.y) t.h (plI wd k) rise = true
  · rw [if_pos q, if_pos (by rw [q]; rfl)]; rfl
  · rw [if_neg q, if_neg (by simpa using q)]; rfl
theorem seD_ne {wd : Int} {g : List Int} {t : Tw} {rise : Int} {n k : Nat} {q : Pl} (hq : q ∈ seD wd g t rise n (k + 1)) : q ≠ plI wd k := by
  intro e
  unfold seD at hq
  have h1 := (List.mem_filter.1 hq).1
  obtain ⟨i, hi, hx⟩ := List.getElem_of_mem h1
  rw [List.getElem_drop] at hx
  have hl : k + 1 + i < n := by rw [List.length_drop, plN_len] at hi; omega
  have h2 := plN_get (wd := wd) hl
  rw [List.getD_eq_getElem?_getD, List.getElem?_eq_getElem (by rw [plN_len]; exact hl)] at h2
  simp only [Option.getD_some] at h2
  rw [h2, e] at hx
  have := plI_inj hx
  omega
theorem PlRow.tail {w : World} {b off n c : Nat} {p : Pl} {l : List Pl} (h : PlRow w (.slice (some ⟨b, off, none⟩) n c) (p :: l)) (a : Option Addr) (ha : c ≠ 1 → a = some ⟨b, off + 2, none⟩) : PlRow w (.slice a l.length (c - 1)) l := by
  rcases h with ⟨_, _, _, h⟩ | ⟨b', off', cap, hv, hp, h1, hc⟩
  · cases h
  · cases hv
    cases l with
    | nil => exact .inl ⟨_, _, rfl, rfl⟩
    | cons q l =>
      have hc1 : c ≠ 1 := by simp at hp; omega
      rw [ha hc1]
      refine .inr ⟨b, off + 2, c - 1, rfl, by simp at hp ⊢; omega, h1, fun i hi => ?_⟩
      have h2 := hc (i + 1) (by simpa using hi)
      rw [show off + (i + 1) * 2 = off + 2 + i * 2 by omega] at h2
      simpa [List.getD_eq_getElem?_getD] using h2
set_option maxRecDepth 100000 in
set_option maxHeartbeats 8000000 in
theorem Dead_any (wd hg : Int) (o tv hv : Value) (g : List Int) (T : List Tw) (H : List Hz) (id rise : Int) (w : World) (ho : INRow w o g) (hl : g.length ≤ 9223372036854775807) (ht : TwRow w tv T) (htl : T.length ≤ 9223372036854775807) (hh : HzRow w hv H) (hhl : H.length ≤ 9223372036854775807) :
    Calls Try.prog 23 #[coV wd hg o tv hv, .int .i64 id, .int .i64 rise] w fun e w' => ∃ v', e = .returned (.tuple #[v', .int .i64 (seE wd hg g T H id rise)]) ∧ Below w.heap.size w w' ∧ (seE wd hg g T H id rise ≠ 0 → v' = .slice none 0 0) ∧
      (seE wd hg g T H id rise = 0 → w'.ownsRow w.heap.size 30 2 v' (seL wd g (ctT wd hg g T H id) rise false g.length).length ((seL wd g (ctT wd hg g T H id) rise false g.length).flatMap encP)) := by
  have HSN := Lib.hid (fun w' (h : Below w.heap.size w w') => Seen_any wd hg o tv hv g T H id rise w' (ho.keep h) hl (ht.keep h) htl (hh.keep h) hhl)
  have HO := Lib.hid ho
  obtain ⟨oa, oc, rfl, _⟩ := ho.form
  obtain ⟨W1, hW1, hb0, hs1, hrd⟩ := co_reads w wd hg (.slice oa g.length oc) tv hv
  have HW1 := Lib.hid hW1; have HB0 := Lib.hid hb0; have HRD := Lib.hid hrd; have HS1 := Lib.hid hs1
  clear hW1 hb0 hrd hs1 ho ht hh hl htl hhl
  unfold coV at HSN
  unfold coV
  by_cases hE : seE wd hg g T H id rise = 0
  case neg =>
    obtain ⟨E, hEe⟩ : ∃ x, seE wd hg g T H id rise = x := ⟨_, rfl⟩
    rw [hEe] at hE HSN ⊢
    have HNE := Lib.hid hE
    have qe : (E != 0) = true := by simpa using hE
    clear hE hEe
    go_enter Try.func23, Try.ntmps23
    go_wp2_with fail
    rw [← HW1.out]
    obtain ⟨q0, q1, q2, q3, q4⟩ := HRD.out W1 (Below.refl _ _)
    go_wp2_with fail
    refine (HSN.out _ HB0.out).mono ?_
    rintro e w2 ⟨v2, rfl, hb2, hn2, _⟩
    have hv2 := hn2 HNE.out
    subst hv2
    have HB2 := Lib.hid (HB0.out.trans (hb2.mono HB0.out.size))
    clear hb2 hn2 q0 q1 q2 q3 q4
    go_wp2_with fail
    go_ret2
    exact ⟨_, rfl, HB2.out, fun _ => rfl, fun h => absurd h HNE.out⟩
  have hct : ctE wd hg g T H id = 0 := by
    unfold seE at hE
    split at hE
    · assumption
    · rename_i h; exact absurd hE h
  obtain ⟨hck, _⟩ := ct_ok hct
  obtain ⟨hm, _⟩ := ckE_ok hck
  have HM := Lib.hid hm
  have hgm : g.length ≤ 2401 := by
    obtain ⟨a1, a2, a3, a4, a5, _⟩ := vmB_ok hm
    have h1 : wd * hg ≤ 49 * 49 := Int.mul_le_mul a2 a4 (by omega) (by omega)
    omega
  have HPL := Lib.hid (fun w' (h : Below w.heap.size w w') => places_any wd hg (.slice oa g.length oc) g w' (HO.out.keep h) hm)
  obtain ⟨t, htt⟩ : ∃ x, ctT wd hg g T H id = x := ⟨_, rfl⟩
  rw [htt] at HSN ⊢
  rw [hE] at HSN ⊢
  clear hE hct hck hm htt
  go_enter Try.func23, Try.ntmps23
  go_wp2_with fail
  rw [← HW1.out]
  obtain ⟨q0, q1, q2, q3, q4⟩ := HRD.out W1 (Below.refl _ _)
  go_wp2_with fail
  refine (HSN.out _ HB0.out).mono ?_
  rintro e w2 ⟨v2, rfl, hb2, _, hown⟩
  have HSR := Lib.hid (PlRow.of_own (hown trivial))
  have HD2 := Lib.hid hb2
  have HB2 := Lib.hid (HB0.out.trans (hb2.mono HB0.out.size))
  obtain ⟨sa, sc, rfl, _⟩ := HSR.out.form
  clear hb2 hown q0 q1 q2 q3 q4
  obtain ⟨q0, q1, q2, q3, q4⟩ := HRD.out w2 HD2.out
  go_wp2_with fail
  refine (HPL.out _ HB2.out).mono ?_
  rintro e w5 ⟨v5, rfl, hb5, hown⟩
  have hown2 : w5.ownsRow w2.heap.size 30 2 v5 (plN wd g.length).length ((plN wd g.length).flatMap encP) := by rw [plN_len]; exact hown
  have HPR := Lib.hid (PlRow.of_own hown2)
  have HD5 := Lib.hid (HD2.out.trans (hb5.mono HD2.out.size))
  have HB5 := Lib.hid (HB2.out.trans (hb5.mono HB2.out.size))
  have HSR5 := Lib.hid (HSR.out.keep hb5)
  obtain ⟨pa, pc, rfl, hpc⟩ := HPR.out.form
  rw [plN_len] at hpc ⊢
  have HPC := Lib.hid hpc
  obtain ⟨i0, hi0, hz0, hz1, hz2⟩ := info_parts info_pl3
  clear hb5 hown hown2 hpc HPR HSR q0 q1 q2 q3 q4
  go_wp2_with fail
  go_loopw [8, 10, 27] (fun s v i wr => ∃ (k : Nat), k ≤ g.length ∧ i = .int .i64 k ∧ Hid (Below w5.heap.size w5 wr) ∧ Hid (PlRow w5 s (seD wd g t rise g.length k)) ∧ Hid (wr.ownsRow w5.heap.size 30 2 v (seL wd g t rise false k).length ((seL wd g t rise false k).flatMap encP))) (fun _ _ i _ => g.length - (intOf i).toNat)
  case atStart => exact ⟨0, Nat.zero_le _, rfl, Lib.hid (Below.refl _ _), Lib.hid (by rw [seD_zero]; exact HSR5.out), Lib.hid (World.ownsRow_nil _ _ _ _)⟩
  case round =>
    obtain ⟨k, hk, rfl, hB, hS, hO⟩ := hrel
    have HBR := Lib.hid (HB5.out.trans (hB.out.mono HB5.out.size))
    by_cases hkl : k < g.length
    · obtain ⟨pb, po, rfl, _, hpb, c0, c1⟩ := HPC.out k hkl
      have hki : (k : Int) < g.length := by omega
      have hk0 : (0 : Int) ≤ k := by omega
      rw [plN_get hkl] at c0 c1
      have HSS := Lib.hid (seL_succ wd g t rise false k)
      have HST := Lib.hid (seD_step (wd := wd) (g := g) (t := t) (rise := rise) hkl)
      have HNQ := Lib.hid (fun q => seD_ne (wd := wd) (g := g) (t := t) (rise := rise) (n := g.length) (k := k) (q := q))
      have HLN := Lib.hid (seL_len wd g t rise false k)
      obtain ⟨⟨x, y⟩, hxy⟩ : ∃ q, plI wd k = q := ⟨_, rfl⟩
      rw [hxy] at c0 c1 HSS HST HNQ
      simp only at c0 c1
      have e0 := (hB.out.cell (p := ⟨pb, _, none⟩) hpb).trans c0
      have e1 := (hB.out.cell (p := ⟨pb, _, none⟩) hpb).trans c1
      have HZB := Lib.hid (hB.out.alloc hB.out.size (.cells #[.int .i64 x, .int .i64 y] 30))
      have HZR : Hid ((wr.alloc (.cells #[.int .i64 x, .int .i64 y] 30)).heap[wr.heap.size]? = some (.cells #[.int .i64 x, .int .i64 y] 30 (0, 0))) := Lib.hid (heap_alloc_new _ _)
      have HZO := Lib.hid (hO.out.alloc (.cells #[.int .i64 x, .int .i64 y] 30))
      have HZS := Lib.hid (hS.out.keep HZB.out)
      have r0 := cellH HZR.out 0
      have r1 := cellH HZR.out 1
      simp only [List.getElem?_toArray, List.getElem?_cons_zero, List.getElem?_cons_succ] at r0 r1
      obtain ⟨fb, hfb⟩ : ∃ b, freeB g wd (t.x, t.y) t.h (x, y) rise = b := ⟨_, rfl⟩
      rw [hfb] at HSS HST
      obtain ⟨R1, hR1⟩ : ∃ l, seD wd g t rise g.length (k + 1) = l := ⟨_, rfl⟩
      rw [hR1] at HST HNQ
      have HR1 := Lib.hid hR1
      clear c0 c1 hxy hpb hfb hR1
      cases fb
      · -- the place is not seen
        have HN : Hid (seL wd g t rise false (k + 1) = seL wd g t rise false k ++ [(x, y)]) := Lib.hid (by rw [HSS.out]; simp)
        have hst : seD wd g t rise g.length k = R1 := by rw [HST.out]; simp
        rw [hst] at hS HZS
        clear hst
        obtain ⟨sl, hsl⟩ : ∃ l, seL wd g t rise false k = l := ⟨_, rfl⟩
        rw [hsl] at HN HZO HLN
        have hlen := HLN.out
        have h63 : sl.length + 1 ≤ maxLen := by unfold maxLen; omega
        have hby : (sl.length + 1) * 16 ≤ 140737488355328 := by omega
        have hbase : w5.heap.size ≤ wr.heap.size := hB.out.size
        have HQ : Hid (∀ n, Below w5.heap.size w5 ((wr.alloc (.cells #[.int .i64 x, .int .i64 y] 30)).drewN n) ∧ ((wr.alloc (.cells #[.int .i64 x, .int .i64 y] 30)).drewN n).ownsRow w5.heap.size 30 2 u10 sl.length (sl.flatMap encP) ∧ ((wr.alloc (.cells #[.int .i64 x, .int .i64 y] 30)).drewN n).heap[wr.heap.size]? = some (.cells #[.int .i64 x, .int .i64 y] 30 (0, 0)) ∧ PlRow ((wr.alloc (.cells #[.int .i64 x, .int .i64 y] 30)).drewN n) u8 R1) := Lib.hid (fun n => ⟨below_drewN HZB.out _, HZO.out, HZR.out, HZS.out⟩)
        obtain ⟨sa2, sc2, rfl, hsc⟩ := HZS.out.form
        cases R1 with
        | nil =>
          simp only [List.length_nil] at hS HZS HQ ⊢
          clear hsl hlen hsc
          go_wp2_with fail
          go_quiet (fail)
          obtain ⟨Z, hZ⟩ : ∃ Z, (wr.alloc (.cells #[.int .i64 x, .int .i64 y] 30)).drewN nq = Z := ⟨_, rfl⟩
          obtain ⟨hb6, ho6, hr6, hp6⟩ := HQ.out nq
          rw [hZ] at hb6 ho6 hr6 hp6 ⊢
          have HB6 := Lib.hid hb6
          have HP6 := Lib.hid hp6
          have s0 := cellH hr6 0
          have s1 := cellH hr6 1
          simp only [List.getElem?_toArray, List.getElem?_cons_zero, List.getElem?_cons_succ] at s0 s1
          have hbase : w5.heap.size ≤ Z.heap.size := hb6.size
          clear hZ hb6 hr6 hp6
          go_wp2_with (at_builtin; refine wpList_append_own _ rfl _ _ 42 rfl w5.heap.size 30 i0 (.agg #[.int .i64 0, .int .i64 0]) 2 16 Try.underlying42 hi0 hz0 hz1 hz2 rfl (by decide) _ _ _ rfl (World.ownsRow.alloc ho6 _) ⟨Z.heap.size, 0, none⟩ 1 1 [.int .i64 x, .int .i64 y] rfl rfl (fun j u h => cell_two' _ _ _ _ j u h) (by simp [Value.oneCell']) h63 hby (by simp; omega) ?_; intro v' w7 hown' hgrow _)
          have HB7 : Hid (Below w5.heap.size w5 w7) := Lib.hid ((HB6.out.alloc hbase _).grown hgrow (by simp; omega) (fun j e => (World.ownsRow.lt ho6 j e).1))
          have HO7 : Hid (w7.ownsRow w5.heap.size 30 2 v' (seL wd g t rise false (k + 1)).length ((seL wd g t rise false (k + 1)).flatMap encP)) := Lib.hid (by
            rw [HN.out, List.length_append, List.flatMap_append]; exact hown')
          have HS7 : Hid (PlRow w5 (.slice sa2 0 sc2) (seD wd g t rise g.length (k + 1))) := Lib.hid (by rw [HR1.out]; exact .inl ⟨_, _, rfl, rfl⟩)
          clear hown' hgrow ho6 s0 s1
          go_wp2_with fail
          go_roundw
          case rel => exact ⟨k + 1, by omega, by go_num, HB7, HS7, HO7⟩
          case measure => simp [intOf]; omega
        | cons q R2 =>
          obtain ⟨sb, so, rfl, hcap, hsb, d0, d1⟩ := hsc 0 (by simp)
          have hqn := HNQ.out q (by simp)
          obtain ⟨qx, qy⟩ := q
          simp only [List.getD_cons_zero, Nat.zero_mul, Nat.add_zero, List.length_cons] at d0 d1 hS HZS HQ hcap ⊢
          have hp0 : (0 : Int) < (R2.length : Int) + 1 := by omega
          have hp1 : (0 : Int) ≤ (R2.length : Int) + 1 := by omega
          clear hsl hlen hsc hsb
          by_cases hqx : qx = x
          · have hqy : ¬ qy = y := fun e => hqn (by rw [hqx, e])
            have g1 : (qy == y) = false := by simpa using hqy
            have g0 : (qx == x) = true := by simpa using hqx
            clear hqx hqy hqn
            go_wp2_with fail
            go_quiet (fail)
            obtain ⟨Z, hZ⟩ : ∃ Z, (wr.alloc (.cells #[.int .i64 x, .int .i64 y] 30)).drewN nq = Z := ⟨_, rfl⟩
            obtain ⟨hb6, ho6, hr6, hp6⟩ := HQ.out nq
            rw [hZ] at hb6 ho6 hr6 hp6 ⊢
            have HB6 := Lib.hid hb6
            have HP6 := Lib.hid hp6
            have s0 := cellH hr6 0
            have s1 := cellH hr6 1
            simp only [List.getElem?_toArray, List.getElem?_cons_zero, List.getElem?_cons_succ] at s0 s1
            have hbase : w5.heap.size ≤ Z.heap.size := hb6.size
            clear hZ hb6 hr6 hp6
            go_wp2_with (at_builtin; refine wpList_append_own _ rfl _ _ 42 rfl w5.heap.size 30 i0 (.agg #[.int .i64 0, .int .i64 0]) 2 16 Try.underlying42 hi0 hz0 hz1 hz2 rfl (by decide) _ _ _ rfl (World.ownsRow.alloc ho6 _) ⟨Z.heap.size, 0, none⟩ 1 1 [.int .i64 x, .int .i64 y] rfl rfl (fun j u h => cell_two' _ _ _ _ j u h) (by simp [Value.oneCell']) h63 hby (by simp; omega) ?_; intro v' w7 hown' hgrow _)
            have HB7 : Hid (Below w5.heap.size w5 w7) := Lib.hid ((HB6.out.alloc hbase _).grown hgrow (by simp; omega) (fun j e => (World.ownsRow.lt ho6 j e).1))
            have HO7 : Hid (w7.ownsRow w5.heap.size 30 2 v' (seL wd g t rise false (k + 1)).length ((seL wd g t rise false (k + 1)).flatMap encP)) := Lib.hid (by
              rw [HN.out, List.length_append, List.flatMap_append]; exact hown')
            have HS7 : Hid (PlRow w5 (.slice (some ⟨sb, so, none⟩) (R2.length + 1) sc2) (seD wd g t rise g.length (k + 1))) := Lib.hid (by rw [HR1.out]; exact hS.out)
            clear hown' hgrow ho6 s0 s1
            go_wp2_with fail
            go_roundw
            case rel => exact ⟨k + 1, by omega, by go_num, HB7, HS7, HO7⟩
            case measure => simp [intOf]; omega
          · have g0 : (qx == x) = false := by simpa using hqx
            clear hqx hqn
            go_wp2_with fail
            go_quiet (fail)
            obtain ⟨Z, hZ⟩ : ∃ Z, (wr.alloc (.cells #[.int .i64 x, .int .i64 y] 30)).drewN nq = Z := ⟨_, rfl⟩
            obtain ⟨hb6, ho6, hr6, hp6⟩ := HQ.out nq
            rw [hZ] at hb6 ho6 hr6 hp6 ⊢
            have HB6 := Lib.hid hb6
            have HP6 := Lib.hid hp6
            have s0 := cellH hr6 0
            have s1 := cellH hr6 1
            simp only [List.getElem?_toArray, List.getElem?_cons_zero, List.getElem?_cons_succ] at s0 s1
            have hbase : w5.heap.size ≤ Z.heap.size := hb6.size
            clear hZ hb6 hr6 hp6
            go_wp2_with (at_builtin; refine wpList_append_own _ rfl _ _ 42 rfl w5.heap.size 30 i0 (.agg #[.int .i64 0, .int .i64 0]) 2 16 Try.underlying42 hi0 hz0 hz1 hz2 rfl (by decide) _ _ _ rfl (World.ownsRow.alloc ho6 _) ⟨Z.heap.size, 0, none⟩ 1 1 [.int .i64 x, .int .i64 y] rfl rfl (fun j u h => cell_two' _ _ _ _ j u h) (by simp [Value.oneCell']) h63 hby (by simp; omega) ?_; intro v' w7 hown' hgrow _)
            have HB7 : Hid (Below w5.heap.size w5 w7) := Lib.hid ((HB6.out.alloc hbase _).grown hgrow (by simp; omega) (fun j e => (World.ownsRow.lt ho6 j e).1))
            have HO7 : Hid (w7.ownsRow w5.heap.size 30 2 v' (seL wd g t rise false (k + 1)).length ((seL wd g t rise false (k + 1)).flatMap encP)) := Lib.hid (by
              rw [HN.out, List.length_append, List.flatMap_append]; exact hown')
            have HS7 : Hid (PlRow w5 (.slice (some ⟨sb, so, none⟩) (R2.length + 1) sc2) (seD wd g t rise g.length (k + 1))) := Lib.hid (by rw [HR1.out]; exact hS.out)
            clear hown' hgrow ho6 s0 s1
            go_wp2_with fail
            go_roundw
            case rel => exact ⟨k + 1, by omega, by go_num, HB7, HS7, HO7⟩
            case measure => simp [intOf]; omega
      · have HN : Hid (seL wd g t rise false (k + 1) = seL wd g t rise false k) := Lib.hid (by rw [HSS.out]; simp)
        have hst : seD wd g t rise g.length k = (x, y) :: R1 := by rw [HST.out]; simp
        rw [hst] at hS HZS
        clear hst
        obtain ⟨sa2, sc2, rfl, hsc⟩ := HZS.out.form
        obtain ⟨sb, so, rfl, hcap, hsb, d0, d1⟩ := hsc 0 (by simp)
        simp only [List.getD_cons_zero, Nat.zero_mul, Nat.add_zero, List.length_cons] at d0 d1 hS HZS hcap ⊢
        have HQ : Hid (∀ n, Below w5.heap.size w5 ((wr.alloc (.cells #[.int .i64 x, .int .i64 y] 30)).drewN n) ∧ ((wr.alloc (.cells #[.int .i64 x, .int .i64 y] 30)).drewN n).ownsRow w5.heap.size 30 2 u10 (seL wd g t rise false (k + 1)).length ((seL wd g t rise false (k + 1)).flatMap encP)) := Lib.hid (fun n => ⟨below_drewN HZB.out _, by rw [HN.out]; exact HZO.out⟩)
        have hp0 : (0 : Int) < (R1.length : Int) + 1 := by omega
        have hp1 : (0 : Int) ≤ (R1.length : Int) + 1 := by omega
        have hp2 : (1 : Int) ≤ (R1.length : Int) + 1 := by omega
        have hcapi : (R1.length : Int) + 1 ≤ sc2 := by omega
        have HTL := Lib.hid (fun a ha => hS.out.tail a ha)
        clear hsc hsb hcap
        by_cases hc1 : sc2 = 1
        · subst hc1
          go_wp2_with fail
          go_quiet (fail)
          go_wp2_with fail
          go_roundw
          case rel => exact ⟨k + 1, by omega, by go_num, Lib.hid (HQ.out _).1, Lib.hid (by rw [HR1.out]; exact HTL.out _ (fun h => absurd rfl h)), Lib.hid (HQ.out _).2⟩
          case measure => simp [intOf]; omega
        · have HC1 := Lib.hid hc1
          go_wp2_with fail
          go_quiet (fail)
          go_wp2_with fail
          go_roundw
          case rel => exact ⟨k + 1, by omega, by go_num, Lib.hid (HQ.out _).1, Lib.hid (by rw [HR1.out]; exact HTL.out _ (fun _ => rfl)), Lib.hid (HQ.out _).2⟩
          case measure => simp [intOf]; omega
    · obtain rfl : k = g.length := by omega
      go_wp2_with fail
      go_ret2
      exact ⟨_, rfl, HBR.out, fun h => absurd rfl h, fun _ => own_base hO.out HB5.out.size⟩
end Go.Proofs.Ytjllkmekchmmbaa
