/- The reference's Unpack. -/
import Derived.Test.YtglhlfabfcneeaaDoorP1
import Derived.Test.YtglhlfabfcneeaaDoorT0
namespace Go.Proofs.YtglhlfabfcneeaaDoor
open Go.RowKit Go.Shelf

/-- The word of a telegram. -/
def pkL (k n : Int) (t : List UInt8) : List UInt8 := (if k = 2 then 114 else 109) :: (signL (n / 26 + 1) ++ signL (n % 26 + 1) ++ t)
theorem packV_ok {k n : Int} {t : List UInt8} (h : validB k n t = true) : packV k n t = .tuple #[.string (B (pkL k n t)), .int .i64 0] := by unfold packV; rw [if_pos h]; rfl
theorem packV_no {k n : Int} {t : List UInt8} (h : validB k n t = false) : packV k n t = .tuple #[.string ⟨#[]⟩, .int .i64 1] := by unfold packV; rw [if_neg (by rw [h]; decide)]
theorem signL_val {c : UInt8} (h : letB c = true) : signL (valI c) = [c] :=
  u8_all (p := fun c => letB c = true → signL (valI c) = [c]) (by decide +kernel) c h
def kindOf (c : UInt8) : Int := if (c.toNat : Int) = 114 then 2 else 1
theorem un_cut {s : List UInt8} (hw : s.all letB = true) (h3 : 3 ≤ s.length) : ∃ c0 c1 c2 d, s = c0 :: c1 :: c2 :: d ∧ letB c1 = true ∧ letB c2 = true := by
  match s, h3 with
  | c0 :: c1 :: c2 :: d, _ =>
    simp only [List.all_cons, Bool.and_eq_true] at hw
    exact ⟨c0, c1, c2, d, rfl, hw.2.1, hw.2.2.1⟩
theorem un_pk {s : List UInt8} (hw : wordB s = true) (h3 : 3 ≤ s.length) (k : Int) : pkL k (unN s) (s.drop 3) = (if k = 2 then 114 else 109) :: s.drop 1 := by
  obtain ⟨c0, c1, c2, d, rfl, h1, h2⟩ := un_cut (word_parts hw).2.2 h3
  have b1 := valI_let_bd c1 h1
  have b2 := valI_let_bd c2 h2
  have e : unN (c0 :: c1 :: c2 :: d) = (valI c1 - 1) * 26 + valI c2 - 1 := rfl
  have e1 : unN (c0 :: c1 :: c2 :: d) / 26 + 1 = valI c1 := by rw [e]; omega
  have e2 : unN (c0 :: c1 :: c2 :: d) % 26 + 1 = valI c2 := by rw [e]; omega
  unfold pkL
  rw [e1, e2, signL_val h1, signL_val h2]; rfl
theorem un_yes {s : List UInt8} (hw : wordB s = true) (h3 : 3 ≤ s.length) (hv : validB (kindOf (s.getD 0 0)) (unN s) (s.drop 3) = true) (hp : pkL (kindOf (s.getD 0 0)) (unN s) (s.drop 3) = s) : unB s = true ∧ unK (s.getD 0 0) = kindOf (s.getD 0 0) := by
  rw [un_pk hw h3] at hp
  have hk : unK (s.getD 0 0) = kindOf (s.getD 0 0) := by
    obtain ⟨c0, c1, c2, d, rfl, _, _⟩ := un_cut (word_parts hw).2.2 h3
    simp only [List.getD_cons_zero, List.drop_succ_cons, List.drop_zero, List.cons.injEq, and_true] at hp ⊢
    unfold kindOf at hp ⊢
    unfold unK
    by_cases c : (c0.toNat : Int) = 114
    · rw [if_pos c]; rw [if_neg (by omega)]; rw [if_pos c]
    · rw [if_neg c] at hp ⊢
      have : c0 = 109 := by rw [← hp]; rfl
      subst this; rfl
  refine ⟨?_, hk⟩
  unfold unB
  rw [hw, hk, hv, decide_eq_true h3]; rfl
theorem un_no {s : List UInt8} (hw : wordB s = true) (h3 : 3 ≤ s.length) (h : ¬ (validB (kindOf (s.getD 0 0)) (unN s) (s.drop 3) = true ∧ pkL (kindOf (s.getD 0 0)) (unN s) (s.drop 3) = s)) : unB s = false := by
  cases hu : unB s with
  | false => rfl
  | true =>
    exfalso; apply h
    unfold unB at hu
    simp only [Bool.and_eq_true] at hu
    obtain ⟨_, hv⟩ := hu
    have hk : (s.getD 0 0 = 109 ∧ unK (s.getD 0 0) = 1) ∨ (s.getD 0 0 = 114 ∧ unK (s.getD 0 0) = 2) := by
      have := (validB_n hv).2.2.1
      unfold unK at this ⊢
      split
      · rename_i c; exact .inl ⟨UInt8.toNat_inj.1 (by have h9 : (109 : UInt8).toNat = 109 := rfl; omega), rfl⟩
      · split
        · rename_i c; exact .inr ⟨UInt8.toNat_inj.1 (by have h9 : (114 : UInt8).toNat = 114 := rfl; omega), rfl⟩
        · rename_i a b; rw [if_neg a, if_neg b] at this; omega
    obtain ⟨c0, c1, c2, d, rfl, _, _⟩ := un_cut (word_parts hw).2.2 h3
    rcases hk with ⟨e, e2⟩ | ⟨e, e2⟩
    all_goals
      rw [e2] at hv
      rw [un_pk hw h3]
      simp only [List.getD_cons_zero] at e hv ⊢
      subst e
      exact ⟨hv, rfl⟩

set_option maxRecDepth 100000 in
set_option maxHeartbeats 2000000 in
theorem runpack_any (s : ByteArray) (w : World) (hs : s.size ≤ maxLen) :
    Calls Tryd.prog 44 #[.string s] w fun e w' => e = .returned (unpackV s.data.toList) ∧ Below w.heap.size w w' := by
  by_cases hw : wordB s.data.toList = true
  · by_cases h3 : s.size < 3
    · have hu : unB s.data.toList = false := by
        have := size_toList s
        simp only [unB, hw, Bool.true_and]; rw [decide_eq_false (by omega)]; rfl
      have Hu := Lib.hid hu
      have Hw := Lib.hid hw
      have h3i : (s.size : Int) < 3 := by omega
      clear hu hw h3
      go_enter Tryd.func44, Tryd.ntmps44
      go_wp2_with fail
      refine (rword_any _ _ hs).mono ?_
      rintro e w1 ⟨rfl, rfl⟩
      rw [Hw.out]
      go_wp2
      refine bodyPost_ret (v := unpackV s.data.toList) ?_ rfl ⟨rfl, ?_⟩
      · simp only [unpackV, Hu.out]
        simp [results, Tryd.results44, go_sem]
      · exact ((Below.refl _ w).alloc (Nat.le_refl _) _)
    · obtain ⟨h1, h2, h3'⟩ := word_parts hw
      have h2' : s.size ≤ 10 := h2
      have hl := size_toList s
      have h33 : 3 ≤ s.data.toList.length := by omega
      have h0s : 0 < s.size := by omega
      have h1s : 1 < s.size := by omega
      have h2s : 2 < s.size := by omega
      have b1 := valI_let_bd _ (getD_all h3' (i := 1) (by omega))
      have b2 := valI_let_bd _ (getD_all h3' (i := 2) (by omega))
      obtain ⟨v1, e1⟩ : ∃ v1, valI (s.data.toList.getD 1 0) = v1 := ⟨_, rfl⟩
      obtain ⟨v2, e2⟩ : ∃ v2, valI (s.data.toList.getD 2 0) = v2 := ⟨_, rfl⟩
      rw [e1] at b1
      rw [e2] at b2
      obtain ⟨b1, b1'⟩ := b1
      obtain ⟨b2, b2'⟩ := b2
      have C1 : Hid (∀ w, Calls Tryd.prog 20 #[.int .u8 (s[1]'h1s).toNat] w fun e w' => e = .returned (.int .i64 v1) ∧ w' = w) := Lib.hid fun w =>
        (rvalue_any _ w).mono fun e w' ⟨a, b⟩ => ⟨by rw [a, ← e1]; exact ret_int (congrArg valI (bat_eq s 1 (by omega))), b.symm⟩
      have C2 : Hid (∀ w, Calls Tryd.prog 20 #[.int .u8 (s[2]'h2s).toNat] w fun e w' => e = .returned (.int .i64 v2) ∧ w' = w) := Lib.hid fun w =>
        (rvalue_any _ w).mono fun e w' ⟨a, b⟩ => ⟨by rw [a, ← e2]; exact ret_int (congrArg valI (bat_eq s 2 (by omega))), b.symm⟩
      have Hn : Hid (unN s.data.toList = 26 * (v1 - 1) + v2 - 1) := Lib.hid (by unfold unN; rw [e1, e2]; omega)
      have a1 : IntKind.i64.wrap (v1 - 1) = v1 - 1 := IntWalk.i64_in _ (by omega)
      have a2 : IntKind.i64.wrap (26 * (v1 - 1)) = 26 * (v1 - 1) := IntWalk.i64_in _ (by omega)
      have a3 : IntKind.i64.wrap (26 * (v1 - 1) + v2) = 26 * (v1 - 1) + v2 := IntWalk.i64_in _ (by omega)
      have a4 : IntKind.i64.wrap (26 * (v1 - 1) + v2 - 1) = 26 * (v1 - 1) + v2 - 1 := IntWalk.i64_in _ (by omega)
      have Hw := Lib.hid hw
      have HY := Lib.hid (un_yes hw h33)
      have HN := Lib.hid (un_no hw h33)
      have hd3 : (s.extract 3 s.size).data.toList = s.data.toList.drop 3 := extract_tail s 3
      have HD := Lib.hid hd3
      have hxs : (s.extract 3 s.size).size ≤ maxLen := by unfold maxLen; rw [ByteArray.size_extract]; omega
      have HXS := Lib.hid hxs
      have HC0 : Hid (s.data.toList.getD 0 0 = s[0]'h0s) := Lib.hid (bat_eq s 0 (by omega)).symm
      clear hw h3' e1 e2 h1 h2 hl h33 hd3 hxs
      have A1 := Lib.hid a1; have A2 := Lib.hid a2; have A3 := Lib.hid a3; have A4 := Lib.hid a4
      clear a1 a2 a3 a4
      go_enter Tryd.func44, Tryd.ntmps44
      go_wp2_with fail
      refine (rword_any _ _ hs).mono ?_
      rintro e w1 ⟨rfl, rfl⟩
      rw [Hw.out]
      go_wp2_with fail
      have a1 := A1.out; have a2 := A2.out; have a3 := A3.out; have a4 := A4.out
      have p1 : (1 : Int) < s.size := by omega
      have p2 : (2 : Int) < s.size := by omega
      have p3 : (3 : Int) ≤ s.size := by omega
      refine wp_region_one 14 13 ((w.alloc (.cells #[.int .i64 0, .int .i64 0, .string ⟨#[]⟩] 65)).alloc (.cells #[.int .i64 0, .int .i64 0, .string ⟨#[]⟩] 65)) (by kernel_rfl) (by kernel_rfl) (by decide) ?_
      simp only [List.take_succ_cons, List.take_zero, List.drop_succ_cons, List.drop_zero]
      iterate 2 (apply wpOne_step (by rfl) (by decide); (intro W _ m; go_simp; exact ⟨⟨_, rfl⟩, rfl⟩))
      (apply wpOne_step (by rfl) (by decide); (intro W _ m; go_simp; exact (C1.out _).mono fun e w' ⟨a, b⟩ => ⟨a, _, b⟩))
      iterate 4 (apply wpOne_step (by rfl) (by decide); (intro W _ m; go_simp; exact ⟨⟨_, rfl⟩, rfl⟩))
      (apply wpOne_step (by rfl) (by decide); (intro W _ m; go_simp; exact (C2.out _).mono fun e w' ⟨a, b⟩ => ⟨a, _, b⟩))
      iterate 5 (apply wpOne_step (by rfl) (by decide); (intro W _ m; go_simp; exact ⟨⟨_, rfl⟩, rfl⟩))
      (apply wpOne_turn (by rfl); (intro m; go_simp; exact ⟨⟨_, rfl⟩, rfl⟩))
      intro m
      clear a1 a2 a3 a4
      have HK1 : Hid ((((s[0]'h0s).toNat : Int) == 114) = true → kindOf (s.data.toList.getD 0 0) = 2) := Lib.hid fun h => by
        rw [HC0.out]; simp at h; unfold kindOf; rw [if_pos (by omega)]
      have HK2 : Hid ((((s[0]'h0s).toNat : Int) == 114) = false → kindOf (s.data.toList.getD 0 0) = 1) := Lib.hid fun h => by
        rw [HC0.out]; simp at h; unfold kindOf; rw [if_neg (by omega)]
      have hc114 : (((s[0]'h0s).toNat : Int) == 114) = true ∨ (((s[0]'h0s).toNat : Int) == 114) = false := by cases (((s[0]'h0s).toNat : Int) == 114) <;> simp
      rcases hc114 with hc114 | hc114
      · have hk := HK1.out hc114
        rw [hk, Hn.out] at HY HN
        have HEK := Lib.hid hk
        clear hk HK1 HK2
        go_wp2_with fail
        refine (rpack_any _ _ _ _ HXS.out).mono ?_
        rintro e w2 ⟨rfl, hb⟩
        rw [HD.out]
        obtain ⟨hc, hf⟩ := bcell hb
        have c0 : w2.cell? ⟨w.heap.size, 0, none⟩ = some (.int .i64 0) := (hc _ _ (by simp; omega)).trans (by go_simp)
        have c1 : w2.cell? ⟨w.heap.size, 1, none⟩ = some (.int .i64 0) := (hc _ _ (by simp; omega)).trans (by go_simp)
        have c2 : w2.cell? ⟨w.heap.size, 2, none⟩ = some (.string ⟨#[]⟩) := (hc _ _ (by simp; omega)).trans (by go_simp)
        have d0 := (hc (w.heap.size + 1) 0 (by simp)).trans (by go_simp; rfl)
        have d1 : w2.cell? ⟨w.heap.size + 1, 1, none⟩ = some (.int .i64 (26 * (v1 - 1) + v2 - 1)) := (hc _ _ (by simp)).trans (by go_simp)
        have d2 : w2.cell? ⟨w.heap.size + 1, 2, none⟩ = some (.string (s.extract 3 s.size)) := (hc _ _ (by simp)).trans (by go_simp)
        have f0 : ∀ o, w2.frozen? ⟨w.heap.size, o, none⟩ = false := fun o => (hf _ _ (by simp; omega)).trans (by go_simp)
        have hbb : Below w.heap.size w w2 := (below_drewN (((Below.refl _ w).alloc (Nat.le_refl _) _).alloc (by simp) _) m).trans (hb.mono (by simp; omega))
        have HBB := Lib.hid hbb
        clear hc hf hb hbb
        cases hv : validB 2 (26 * (v1 - 1) + v2 - 1) (s.data.toList.drop 3)
        · have HU := Lib.hid (HN.out (fun h => by rw [hv] at h; exact absurd h.1 (by decide)))
          rw [packV_no hv]
          clear hv
          go_wp2_with fail
          refine bodyPost_ret (v := unpackV s.data.toList) ?_ rfl ⟨rfl, ?_⟩
          · simp only [unpackV, HU.out]
            simp [results, Tryd.results44, go_sem, c0, c1, c2, d0, d1, d2]
          · exact ((HBB.out.setCell (p := ⟨w.heap.size, 0, none⟩) (Nat.le_refl _) _).setCell (p := ⟨w.heap.size, 1, none⟩) (Nat.le_refl _) _).setCell (p := ⟨w.heap.size, 2, none⟩) (Nat.le_refl _) _
        · rw [packV_ok hv]
          obtain ⟨p, ep⟩ : ∃ p, B (pkL 2 (26 * (v1 - 1) + v2 - 1) (s.data.toList.drop 3)) = p := ⟨_, rfl⟩
          rw [ep]
          by_cases hps : p = s
          · have HU := Lib.hid (HY.out hv (by rw [← L_B (pkL _ _ _), ep, hps]))
            subst hps
            clear hv ep
            go_wp2_with fail
            refine bodyPost_ret (v := unpackV p.data.toList) ?_ rfl ⟨rfl, ?_⟩
            · simp only [unpackV, HU.out.1, if_true, HU.out.2, Hn.out, ← extract_tail, B_L]
              simp [results, Tryd.results44, go_sem, c0, c1, c2, d0, d1, d2, HEK.out]
            · exact ((HBB.out.setCell (p := ⟨w.heap.size, 0, none⟩) (Nat.le_refl _) _).setCell (p := ⟨w.heap.size, 1, none⟩) (Nat.le_refl _) _).setCell (p := ⟨w.heap.size, 2, none⟩) (Nat.le_refl _) _
          · have HU := Lib.hid (HN.out (fun h => hps (by rw [← ep, h.2, B_L])))
            have hq : (p.toList == s.toList) = false := by rw [beq_eq_false_iff_ne]; intro h; exact hps (ext_L (by rw [← toList_L, ← toList_L, h]))
            clear hv ep hps
            go_wp2_with fail
            refine bodyPost_ret (v := unpackV s.data.toList) ?_ rfl ⟨rfl, ?_⟩
            · simp only [unpackV, HU.out]
              simp [results, Tryd.results44, go_sem, c0, c1, c2, d0, d1, d2]
            · exact ((HBB.out.setCell (p := ⟨w.heap.size, 0, none⟩) (Nat.le_refl _) _).setCell (p := ⟨w.heap.size, 1, none⟩) (Nat.le_refl _) _).setCell (p := ⟨w.heap.size, 2, none⟩) (Nat.le_refl _) _
      · have hk := HK2.out hc114
        rw [hk, Hn.out] at HY HN
        have HEK := Lib.hid hk
        clear hk HK1 HK2
        go_wp2_with fail
        refine (rpack_any _ _ _ _ HXS.out).mono ?_
        rintro e w2 ⟨rfl, hb⟩
        rw [HD.out]
        obtain ⟨hc, hf⟩ := bcell hb
        have c0 : w2.cell? ⟨w.heap.size, 0, none⟩ = some (.int .i64 0) := (hc _ _ (by simp; omega)).trans (by go_simp)
        have c1 : w2.cell? ⟨w.heap.size, 1, none⟩ = some (.int .i64 0) := (hc _ _ (by simp; omega)).trans (by go_simp)
        have c2 : w2.cell? ⟨w.heap.size, 2, none⟩ = some (.string ⟨#[]⟩) := (hc _ _ (by simp; omega)).trans (by go_simp)
        have d0 := (hc (w.heap.size + 1) 0 (by simp)).trans (by go_simp; rfl)
        have d1 : w2.cell? ⟨w.heap.size + 1, 1, none⟩ = some (.int .i64 (26 * (v1 - 1) + v2 - 1)) := (hc _ _ (by simp)).trans (by go_simp)
        have d2 : w2.cell? ⟨w.heap.size + 1, 2, none⟩ = some (.string (s.extract 3 s.size)) := (hc _ _ (by simp)).trans (by go_simp)
        have f0 : ∀ o, w2.frozen? ⟨w.heap.size, o, none⟩ = false := fun o => (hf _ _ (by simp; omega)).trans (by go_simp)
        have hbb : Below w.heap.size w w2 := (below_drewN (((Below.refl _ w).alloc (Nat.le_refl _) _).alloc (by simp) _) m).trans (hb.mono (by simp; omega))
        have HBB := Lib.hid hbb
        clear hc hf hb hbb
        cases hv : validB 1 (26 * (v1 - 1) + v2 - 1) (s.data.toList.drop 3)
        · have HU := Lib.hid (HN.out (fun h => by rw [hv] at h; exact absurd h.1 (by decide)))
          rw [packV_no hv]
          clear hv
          go_wp2_with fail
          refine bodyPost_ret (v := unpackV s.data.toList) ?_ rfl ⟨rfl, ?_⟩
          · simp only [unpackV, HU.out]
            simp [results, Tryd.results44, go_sem, c0, c1, c2, d0, d1, d2]
          · exact ((HBB.out.setCell (p := ⟨w.heap.size, 0, none⟩) (Nat.le_refl _) _).setCell (p := ⟨w.heap.size, 1, none⟩) (Nat.le_refl _) _).setCell (p := ⟨w.heap.size, 2, none⟩) (Nat.le_refl _) _
        · rw [packV_ok hv]
          obtain ⟨p, ep⟩ : ∃ p, B (pkL 1 (26 * (v1 - 1) + v2 - 1) (s.data.toList.drop 3)) = p := ⟨_, rfl⟩
          rw [ep]
          by_cases hps : p = s
          · have HU := Lib.hid (HY.out hv (by rw [← L_B (pkL _ _ _), ep, hps]))
            subst hps
            clear hv ep
            go_wp2_with fail
            refine bodyPost_ret (v := unpackV p.data.toList) ?_ rfl ⟨rfl, ?_⟩
            · simp only [unpackV, HU.out.1, if_true, HU.out.2, Hn.out, ← extract_tail, B_L]
              simp [results, Tryd.results44, go_sem, c0, c1, c2, d0, d1, d2, HEK.out]
            · exact ((HBB.out.setCell (p := ⟨w.heap.size, 0, none⟩) (Nat.le_refl _) _).setCell (p := ⟨w.heap.size, 1, none⟩) (Nat.le_refl _) _).setCell (p := ⟨w.heap.size, 2, none⟩) (Nat.le_refl _) _
          · have HU := Lib.hid (HN.out (fun h => hps (by rw [← ep, h.2, B_L])))
            have hq : (p.toList == s.toList) = false := by rw [beq_eq_false_iff_ne]; intro h; exact hps (ext_L (by rw [← toList_L, ← toList_L, h]))
            clear hv ep hps
            go_wp2_with fail
            refine bodyPost_ret (v := unpackV s.data.toList) ?_ rfl ⟨rfl, ?_⟩
            · simp only [unpackV, HU.out]
              simp [results, Tryd.results44, go_sem, c0, c1, c2, d0, d1, d2]
            · exact ((HBB.out.setCell (p := ⟨w.heap.size, 0, none⟩) (Nat.le_refl _) _).setCell (p := ⟨w.heap.size, 1, none⟩) (Nat.le_refl _) _).setCell (p := ⟨w.heap.size, 2, none⟩) (Nat.le_refl _) _
  · have hu : unB s.data.toList = false := by simp [unB, hw]
    have Hu := Lib.hid hu
    have Hw : Hid (wordB s.data.toList = false) := Lib.hid (by simpa using hw)
    clear hu hw
    go_enter Tryd.func44, Tryd.ntmps44
    go_wp2_with fail
    refine (rword_any _ _ hs).mono ?_
    rintro e w1 ⟨rfl, rfl⟩
    rw [Hw.out]
    go_wp2
    refine bodyPost_ret (v := unpackV s.data.toList) ?_ rfl ⟨rfl, ?_⟩
    · simp only [unpackV, Hu.out]
      simp [results, Tryd.results44, go_sem]
    · exact ((Below.refl _ w).alloc (Nat.le_refl _) _)
end Go.Proofs.YtglhlfabfcneeaaDoor
