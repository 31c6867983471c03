/- The reference's merged: the walk. -/
import Derived.Test.YtjhkgfbkpgnodaaGreatDoorW2
namespace Go.Proofs.YtjhkgfbkpgnodaaGreatDoor
open Go.RowKit Go.Shelf

set_option maxRecDepth 100000 in
set_option maxHeartbeats 2000000 in
theorem merged_any : ∀ (m : Nat) (l : List (List UInt8)) (v : Value) (w : World), l.length ≤ m → l ≠ [] → l.length ≤ 1000000 → TRow w v l →
    Calls Tryz.prog 80 #[v] w fun e w' => ∃ v' ys, e = .returned v' ∧ TRow w' v' ys ∧ ys.Pairwise (· ≤ ·) ∧ ys.Perm l ∧ Below w.heap.size w w' := by
  intro m
  induction m with
  | zero =>
    intro l v w h h1
    exact absurd (List.eq_nil_of_length_eq_zero (by omega)) h1
  | succ m ih =>
    intro l v w hm hne hl hT
    have hpos := List.length_pos_iff.2 hne
    obtain ⟨b, off, cap, rfl, hcap, hb, hc⟩ := hT
    by_cases h2 : l.length < 2
    · have h2' : (l.length : Int) < 2 := by omega
      have HT : Hid (TRow w (.slice (some ⟨b, off, none⟩) l.length cap) l) := Lib.hid ⟨b, off, cap, rfl, hcap, hb, hc⟩
      have HP : Hid (l.Pairwise (· ≤ ·)) := Lib.hid (by
        cases l with
        | nil => exact List.Pairwise.nil
        | cons x l => cases l with
          | nil => simp
          | cons y l => simp at h2; omega)
      clear ih hm hc hb h2
      go_enter Tryz.func80, Tryz.ntmps80
      go_wp2_with fail
      go_ret
      exact ⟨_, l, rfl, HT.out, HP.out, .refl _, Below.refl _ _⟩
    · obtain ⟨i0, hi, hz0, hz1, hz2⟩ := info_parts info_str
      have h2' : ¬ (l.length : Int) < 2 := by omega
      obtain ⟨h, hh⟩ : ∃ h, l.length / 2 = h := ⟨_, rfl⟩
      have hd : (l.length : Int).tdiv 2 = (h : Int) := by rw [Int.tdiv_eq_ediv_of_nonneg (by omega)]; omega
      have hh1 : 1 ≤ h := by omega
      have hh2 : h < l.length := by omega
      have t1 : ∀ W, (Instr.slice 41 (.slice (some ⟨b, off, none⟩) l.length cap) none (some (.int .i64 (h : Int))) none).run Tryz.prog W = .ok (.slice (some ⟨b, off, none⟩) h cap) W := fun W => sliceTo_run W b off l.length cap h (by omega) hcap
      have t2 : ∀ W, (Instr.slice 41 (.slice (some ⟨b, off, none⟩) l.length cap) (some (.int .i64 (h : Int))) none none).run Tryz.prog W = .ok (.slice (some ⟨b, off + h, none⟩) (l.length - h) (cap - h)) W := fun W => sliceFrom_run W b off l.length cap h hh2 hcap
      have T1 : Hid (TRow w (.slice (some ⟨b, off, none⟩) h cap) (l.take h)) := Lib.hid ⟨b, off, cap, by rw [List.length_take]; congr 1; omega, by rw [List.length_take]; omega, hb, fun i hi => by
        rw [List.length_take] at hi
        rw [hc i (by omega), List.getD_eq_getElem?_getD, List.getD_eq_getElem?_getD, List.getElem?_take_of_lt (by omega)]⟩
      have T2 : Hid (∀ w1, Below w.heap.size w w1 → TRow w1 (.slice (some ⟨b, off + h, none⟩) (l.length - h) (cap - h)) (l.drop h)) := Lib.hid fun w1 hb1 => ⟨b, off + h, cap - h, by rw [List.length_drop], by rw [List.length_drop]; omega, Nat.lt_of_lt_of_le hb hb1.size, fun i hi => by
        rw [List.length_drop] at hi
        rw [show off + h + i = off + (h + i) by omega]
        refine (hb1.cell (p := ⟨b, _, none⟩) hb).trans ?_
        rw [hc (h + i) (by omega), List.getD_eq_getElem?_getD, List.getD_eq_getElem?_getD, List.getElem?_drop]⟩
      have H1 : Hid (∀ (v : Value) (w : World), TRow w v (l.take h) → _) := Lib.hid (fun v w hT => ih (l.take h) v w (by rw [List.length_take]; omega) (by intro e; have := congrArg List.length e; simp only [List.length_take, List.length_nil] at this; omega) (by rw [List.length_take]; omega) hT)
      have H2 : Hid (∀ (v : Value) (w : World), TRow w v (l.drop h) → _) := Lib.hid (fun v w hT => ih (l.drop h) v w (by rw [List.length_drop]; omega) (by intro e; have := congrArg List.length e; simp only [List.length_drop, List.length_nil] at this; omega) (by rw [List.length_drop]; omega) hT)
      have HPL : Hid ((l.take h ++ l.drop h) = l) := Lib.hid (List.take_append_drop h l)
      have HLT : Hid ((l.take h).length = h ∧ (l.drop h).length = l.length - h) := Lib.hid ⟨by rw [List.length_take]; omega, List.length_drop⟩
      clear ih hm hc hne h2
      go_enter Tryz.func80, Tryz.ntmps80
      go_wp2_with fail
      refine (H1.out _ w T1.out).mono ?_
      rintro e w1 ⟨va, a, rfl, hTa, hsa, hpa, hb1⟩
      have HTA := Lib.hid hTa; have HSA := Lib.hid hsa; have HPA := Lib.hid hpa; have HB1 := Lib.hid hb1
      clear hTa hsa hpa hb1 H1
      go_wp2_with fail
      refine (H2.out _ w1 (T2.out w1 HB1.out)).mono ?_
      rintro e w2 ⟨vb, c, rfl, hTb, hsb, hpb, hb2⟩
      have hla : a.length = h := by rw [HPA.out.length_eq, HLT.out.1]
      have hlc : c.length = l.length - h := by rw [hpb.length_eq, HLT.out.2]
      have hTa2 : TRow w2 va a := by
        obtain ⟨ra, oa, ca, h1, h2, h3, h4⟩ := HTA.out
        exact ⟨ra, oa, ca, h1, h2, Nat.lt_of_lt_of_le h3 hb2.size, fun i hi => (hb2.cell (p := ⟨ra, _, none⟩) h3).trans (h4 i hi)⟩
      obtain ⟨ra, oa, ca, rfl, hca, hra, ka⟩ := hTa2
      obtain ⟨rb, ob, cb, rfl, hcb, hrb, kb⟩ := hTb
      have HM : Hid ((List.merge a c leS).Pairwise (· ≤ ·) ∧ (List.merge a c leS).Perm l) := Lib.hid ⟨merge_sorted HSA.out hsb, (List.merge_perm_append leS).trans ((HPA.out.append hpb).trans (by rw [HPL.out]))⟩
      have HB2 := Lib.hid (HB1.out.trans (hb2.mono HB1.out.size))
      have HLC := Lib.hid hlc
      have HLA := Lib.hid hla
      have hsum : a.length + c.length = l.length := by omega
      clear hsb hpb hb2 HTA HSA HPA HB1 H2 T1 T2 HPL HLT hla hlc hd hh
      have hby : i0.bytes * l.length ≤ 281474976710656 := by rw [hz2]; omega
      have hml : l.length ≤ maxLen := by unfold maxLen; omega
      go_wp2_with (at_make; refine wpList_make_own _ rfl _ _ 41 rfl w2.heap.size 9 i0 (.string ⟨#[]⟩) 1 Tryz.underlying41 hi hz0 hz1 .i64 .i64 _ l.length rfl rfl rfl hby hml (Nat.le_refl _) ?_; intro w3 hown3 hgrow3)
      have HB3 := Lib.hid ((Below.refl w2.heap.size w2).grown hgrow3 (Nat.le_refl _) (fun k e => by cases e))
      have HKA := Lib.hid ka; have HKB := Lib.hid kb
      have HO3 := Lib.hid hown3
      clear hgrow3 hown3 ka kb t1 t2
      go_loopw [3, 4, 5] (fun u v t wr => ∃ (i j i' j' cA cB : Nat) (acc A C : List (List UInt8)), u = .slice (some ⟨ra, i', none⟩) A.length cA ∧ v = .slice (some ⟨rb, j', none⟩) C.length cB ∧ t = .slice (some ⟨w2.heap.size, 0, none⟩) acc.length l.length ∧
        A.length ≤ cA ∧ C.length ≤ cB ∧ acc.length + A.length + C.length = l.length ∧ Hid ((A ≠ [] → i' = oa + i) ∧ a.drop i = A) ∧ Hid ((C ≠ [] → j' = ob + j) ∧ c.drop j = C) ∧ Hid (acc ++ List.merge A C leS = List.merge a c leS) ∧
        Hid (wr.ownsRow w2.heap.size 9 1 (.slice (some ⟨w2.heap.size, 0, none⟩) acc.length l.length) acc.length (acc.map encStr)) ∧ Hid (Below w2.heap.size w2 wr)) (fun u v _ _ => sliceLen u + sliceLen v)
      case atStart => exact ⟨0, 0, oa, ob, ca, cb, [], a, c, rfl, rfl, rfl, hca, hcb, by simpa using hsum, Lib.hid ⟨fun _ => rfl, rfl⟩, Lib.hid ⟨fun _ => rfl, rfl⟩, Lib.hid rfl, HO3, HB3⟩
      case round =>
        obtain ⟨i, j, i', j', cA, cB, acc, A, C, rfl, rfl, rfl, hcA, hcB, hAC, hA, hC, hM, hO, hBw⟩ := hrel
        have wka : Hid (∀ k, k < a.length → wr.cell? ⟨ra, oa + k, none⟩ = some (.string (B (a.getD k [])))) := Lib.hid fun k hk => (hBw.out.cell (p := ⟨ra, _, none⟩) hra).trans (HKA.out k hk)
        have wkb : Hid (∀ k, k < c.length → wr.cell? ⟨rb, ob + k, none⟩ = some (.string (B (c.getD k [])))) := Lib.hid fun k hk => (hBw.out.cell (p := ⟨rb, _, none⟩) hrb).trans (HKB.out k hk)
        have hgl : w2.heap.size < wr.heap.size := by
          rcases hO.out.2 with ⟨h0, _⟩ | ⟨g, cap', cur, hv, _, hb, _⟩
          · cases h0
          · cases hv; exact (Array.getElem?_eq_some_iff.1 hb).1
        by_cases hex : A = [] ∨ C = []
        · have HT : Hid (acc ++ A ++ C = List.merge a c leS) := Lib.hid (by
            rw [← hM.out]
            rcases hex with rfl | rfl
            · simp
            · simp)
          have hcond : A.length = 0 ∨ (0 < A.length ∧ C.length = 0) := by
            rcases hex with rfl | rfl
            · left; simp
            · by_cases h : A.length = 0
              · exact .inl h
              · exact .inr ⟨by omega, rfl⟩
          have HCA := Lib.hid (rest_cells hA.out.2 hA.out.1 wka.out)
          clear hA hM hex wka
          obtain ⟨p, hp⟩ : ∃ p, A.length = p := ⟨_, rfl⟩
          obtain ⟨q, hq⟩ : ∃ q, C.length = q := ⟨_, rfl⟩
          have HP := Lib.hid hp
          have HQ := Lib.hid hq
          rw [hp] at hcA hAC hcond ⊢
          rw [hq] at hcB hAC hcond ⊢
          have hk1 : acc.length + p ≤ l.length := by omega
          have hk2 : acc.length + p + q ≤ l.length := by omega
          have HF : Hid (∀ w5 : World, w5.ownsRow w2.heap.size 9 1 (.slice (some ⟨w2.heap.size, 0, none⟩) (acc.length + p + q) l.length) (acc.length + p + q) (acc.map encStr ++ A.map encStr ++ C.map encStr) → Below w2.heap.size wr w5 →
              ∃ v' ys, Ending.returned (.slice (some ⟨w2.heap.size, 0, none⟩) (acc.length + p + q) l.length) = Ending.returned v' ∧ TRow w5 v' ys ∧ ys.Pairwise (· ≤ ·) ∧ ys.Perm l ∧ Below w.heap.size w w5) := Lib.hid (by
            intro w5 h5 hb5
            refine ⟨_, acc ++ A ++ C, rfl, ?_, by rw [HT.out]; exact HM.out.1, by rw [HT.out]; exact HM.out.2, (HB2.out.trans (hBw.out.mono HB2.out.size)).trans (hb5.mono HB2.out.size)⟩
            have e : acc.length + p + q = (acc ++ A ++ C).length := by simp only [List.length_append]; omega
            rw [e] at h5 ⊢
            rw [← List.map_append, ← List.map_append] at h5
            exact TRow.of_owned h5)
          have HL1 : Hid ((A.map encStr).length = p * 1) := Lib.hid (by simp [hp])
          have HL2 : Hid ((C.map encStr).length = q * 1) := Lib.hid (by simp [hq])
          clear hp hq hAC
          have HCC : Hid (∀ w4 : World, wr.grownBy w4 (some w2.heap.size) → ∀ ad, some (⟨rb, j', none⟩ : Addr) = some ad → ∀ t u, (C.map encStr)[t]? = some u → w4.cell? (ad.add t) = some u) := Lib.hid fun w4 hg => rest_cells hC.out.2 hC.out.1 (fun k hk => (World.cell?_of_block (w := wr) (a := ⟨rb, _, none⟩) (hg.block rb (by omega) (by simp; omega))).trans (wkb.out k hk))
          rcases hcond with rfl | ⟨hp0, rfl⟩
          · go_wp2_with (first
              | (at_builtin; refine wpList_append_fits_any _ rfl _ _ 41 rfl w2.heap.size 9 i0 1 Tryz.underlying41 hi hz1 w2.heap.size (acc.length + 0) l.length (acc.map encStr ++ A.map encStr) rfl hown4 _ q cB (C.map encStr) rfl HL2.out (fun h => by cases h) (HCC.out w4 hgrow4) (by simp [encStr, Value.oneCell']) hk2 ?_; intro w5 hown5 hgrow5)
              | (at_builtin; refine wpList_append_fits_any _ rfl _ _ 41 rfl w2.heap.size 9 i0 1 Tryz.underlying41 hi hz1 w2.heap.size acc.length l.length (acc.map encStr) rfl hO.out _ 0 cA (A.map encStr) rfl HL1.out (fun h => by cases h) HCA.out (by simp [encStr, Value.oneCell']) hk1 ?_; intro w4 hown4 hgrow4)
              | fail)
            go_ret
            exact HF.out w5 hown5 (((Below.refl _ _).grown hgrow4 (by omega) (fun k e => by cases e; omega)).grown hgrow5 (by have := hgrow4.size; omega) (fun k e => by cases e; omega))
          · have hpi : (0 : Int) < p := by omega
            go_wp2_with (first
              | (at_builtin; refine wpList_append_fits_any _ rfl _ _ 41 rfl w2.heap.size 9 i0 1 Tryz.underlying41 hi hz1 w2.heap.size (acc.length + p) l.length (acc.map encStr ++ A.map encStr) rfl hown4 _ 0 cB (C.map encStr) rfl HL2.out (fun h => by cases h) (HCC.out w4 hgrow4) (by simp [encStr, Value.oneCell']) hk2 ?_; intro w5 hown5 hgrow5)
              | (at_builtin; refine wpList_append_fits_any _ rfl _ _ 41 rfl w2.heap.size 9 i0 1 Tryz.underlying41 hi hz1 w2.heap.size acc.length l.length (acc.map encStr) rfl hO.out _ p cA (A.map encStr) rfl HL1.out (fun h => by cases h) HCA.out (by simp [encStr, Value.oneCell']) hk1 ?_; intro w4 hown4 hgrow4)
              | fail)
            go_ret
            exact HF.out w5 hown5 (((Below.refl _ _).grown hgrow4 (by omega) (fun k e => by cases e; omega)).grown hgrow5 (by have := hgrow4.size; omega) (fun k e => by cases e; omega))
        · cases A with
          | nil => exact absurd (.inl rfl) hex
          | cons x A =>
            cases C with
            | nil => exact absurd (.inr rfl) hex
            | cons y C =>
              clear hex
              obtain ⟨gi, hx, da⟩ := getD_drop0 hA.out.2
              obtain ⟨gj, hy, dc⟩ := getD_drop0 hC.out.2
              obtain rfl : i' = oa + i := hA.out.1 (by simp)
              obtain rfl : j' = ob + j := hC.out.1 (by simp)
              have ca0 : wr.cell? ⟨ra, oa + i, none⟩ = some (.string (B x)) := by rw [← hx]; exact wka.out i gi
              have cb0 : wr.cell? ⟨rb, ob + j, none⟩ = some (.string (B y)) := by rw [← hy]; exact wkb.out j gj
              simp only [List.length_cons] at hcA hcB hAC ⊢
              have hpa : (0 : Int) < (A.length : Int) + 1 := by omega
              have hpb : (0 : Int) < (C.length : Int) + 1 := by omega
              have hs1 := fun W => slice1_run W ra (oa + i) A.length cA hcA
              have hs2 := fun W => slice1_run W rb (ob + j) C.length cB hcB
              have hfit : acc.length + 1 ≤ l.length := by omega
              have HDA := Lib.hid da; have HDC := Lib.hid dc
              have HAC := Lib.hid hAC
              clear gi gj hx hy da dc wka wkb hAC
              by_cases hle : x ≤ y
              · have hqq : (Op.bytesLess x y || x == y) = true := by
                  rw [bless]
                  by_cases e : x = y
                  · simp [e]
                  · rw [decide_eq_true (lt_of_le_ne hle e), Bool.true_or]
                have HMT := Lib.hid ((merge_take (a := A) (b := C) hle).symm)
                clear hle
                go_wp2_with fail
                go_quiet (fail)
                clear hqq
                go_wp2_with (at_builtin; refine wpList_append_fits _ rfl _ _ 41 rfl w2.heap.size 9 i0 1 Tryz.underlying41 hi hz1 w2.heap.size acc.length l.length (acc.map encStr) rfl (ownsRow_drewN (hO.out.alloc _) _) ⟨wr.heap.size, 0, none⟩ 1 1 [.string (B x)] rfl rfl (cell_one_new wr _ _) (by simp [Value.oneCell']) hfit ?_; intro w4 hown4 hgrow4)
                have hb4 : Below w2.heap.size wr w4 := (below_drewN ((Below.refl _ _).alloc (by omega) _) _).grown hgrow4 (by simp; omega) (fun k e => by cases e; omega)
                go_roundw
                case rel => exact ⟨i + 1, j, _, ob + j, cA - 1, cB, acc ++ [x], A, y :: C, rfl, rfl, by simp, by omega, by simpa using hcB, by have := HAC.out; simp; omega, Lib.hid ⟨fun h => by rw [if_neg (by have := List.length_pos_iff.2 h; omega)]; omega, HDA.out⟩, Lib.hid ⟨fun _ => rfl, hC.out.2⟩, Lib.hid (by rw [List.append_assoc, List.singleton_append, HMT.out]; exact hM.out), Lib.hid (by rw [List.length_append, List.map_append]; exact hown4), Lib.hid (hBw.out.trans hb4)⟩
                case measure => simp [sliceLen]
              · have hqq : (Op.bytesLess x y || x == y) = false := by
                  rw [bless, Bool.or_eq_false_iff]
                  exact ⟨decide_eq_false (fun h => hle (List.le_of_lt h)), beq_eq_false_iff_ne.2 (fun e => hle (by rw [e]; exact List.le_refl _))⟩
                have HMT := Lib.hid ((merge_drop (a := A) (b := C) hle).symm)
                clear hle
                go_wp2_with fail
                go_quiet (fail)
                clear hqq
                go_wp2_with (at_builtin; refine wpList_append_fits _ rfl _ _ 41 rfl w2.heap.size 9 i0 1 Tryz.underlying41 hi hz1 w2.heap.size acc.length l.length (acc.map encStr) rfl (ownsRow_drewN (hO.out.alloc _) _) ⟨wr.heap.size, 0, none⟩ 1 1 [.string (B y)] rfl rfl (cell_one_new wr _ _) (by simp [Value.oneCell']) hfit ?_; intro w4 hown4 hgrow4)
                have hb4 : Below w2.heap.size wr w4 := (below_drewN ((Below.refl _ _).alloc (by omega) _) _).grown hgrow4 (by simp; omega) (fun k e => by cases e; omega)
                go_roundw
                case rel => exact ⟨i, j + 1, oa + i, _, cA, cB - 1, acc ++ [y], x :: A, C, rfl, rfl, by simp, by simpa using hcA, by omega, by have := HAC.out; simp; omega, Lib.hid ⟨fun _ => rfl, hA.out.2⟩, Lib.hid ⟨fun h => by rw [if_neg (by have := List.length_pos_iff.2 h; omega)]; omega, HDC.out⟩, Lib.hid (by rw [List.append_assoc, List.singleton_append, HMT.out]; exact hM.out), Lib.hid (by rw [List.length_append, List.map_append]; exact hown4), Lib.hid (hBw.out.trans hb4)⟩
                case measure => simp [sliceLen]
end Go.Proofs.YtjhkgfbkpgnodaaGreatDoor
