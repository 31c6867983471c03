/- RidgeBehind: Best's place with a further tower. -/
import Derived.Test.YtjllkmekchmmbaaHC2
import Derived.Test.YtjllkmekchmmbaaHL3
import Derived.Test.YtjllkmekchmmbaaHQ2
import Derived.Test.YtjllkmekchmmbaaHI6
set_option linter.unusedVariables false
set_option linter.unusedSimpArgs false
namespace Go.Proofs.Ytjllkmekchmmbaa
open Go Go.RowKit

theorem if_wanted {c : Prop} {d : Decidable c} {A B R : Prop} (hc : c) (h : A) : @ite Prop c d (A ∨ R) B := by rw [if_pos hc]; exact .inl h
def BhI (w Wd : World) (wd hg height rise tick other N id px py : Int) (oa ta ha aa : Option Addr) (gn oc tc zn hc s4 sd ac cn : Nat) (bq : Bool) (T : List Tw) (u10 u79 u80 u81 u82 u83 u84 u85 u86 u87 u88 u89 u90 u96 u97 u98 u99 u100 u101 u102 u103 u104 u105 u106 : Value) (listed : Array Bool) (a : Act) (w' : World) : Prop := ∃ (l0 l1 l2 l3 l4 l5 l6 l7 l8 : Bool) (A B : Nat) (V : Value), listed = #[l0, l1, l2, l3, l4, l5, l6, l7, l8, false, false, false] ∧ a = { tmps := #[.agg #[.int .i64 wd, .int .i64 hg, .slice oa gn oc, .slice ta T.length tc, .slice ha zn hc], .int .i64 height, .int .i64 rise, .int .i64 tick, .int .u16 other, .pointer (some ⟨w.heap.size, 0, none⟩), undef, undef, undef, undef, u10, .bool true, .pointer (some ⟨s4, 0, none⟩), .int .i64 N, .int .i64 0, .slice aa cn ac, .int .i64 0, .int .i64 id, .int .i64 T.length, .int .i64 T.length, .pointer (some ⟨sd, 0, none⟩), undef, undef, undef, undef, undef, .bool true, .agg #[.int .i64 wd, .int .i64 hg, .slice oa gn oc, .slice ta T.length tc, .slice ha zn hc], .bool true, .bool false, .bool false, .pointer (some ⟨w.heap.size, 0, none⟩), .pointer (some ⟨w.heap.size, 2, none⟩), .slice oa gn oc, .int .i64 gn, .bool false, .bool false, .bool false, .pointer (some ⟨w.heap.size, 3, none⟩), .slice ta T.length tc, .int .i64 T.length, .bool false, .bool false, undef, .tuple #[.agg #[.int .i64 px, .int .i64 py], .int .i64 N, .int .i64 0], .agg #[.int .i64 wd, .int .i64 hg, .slice oa gn oc, .slice ta T.length tc, .slice ha zn hc], .int .i64 height, .int .i64 rise, .int .i64 tick, .tuple #[.agg #[.int .i64 px, .int .i64 py], .int .i64 N, .int .i64 0], .agg #[.int .i64 px, .int .i64 py], .int .i64 N, .int .i64 0, .tuple #[.slice aa cn ac, .int .i64 0], .agg #[.int .i64 wd, .int .i64 hg, .slice oa gn oc, .slice ta T.length tc, .slice ha zn hc], .int .i64 rise, .int .i64 tick, .tuple #[.slice aa cn ac, .int .i64 0], .slice aa cn ac, .int .i64 0, .int .i64 0, .bool false, .bool false, .int .i64 0, .bool false, .bool false, .bool false, .pointer (some ⟨w.heap.size, 0, none⟩), .pointer (some ⟨w.heap.size, 2, none⟩), .slice oa gn oc, .int .i64 gn, .bool bq, .bool bq, undef, .int .i64 T.length, .pointer (some ⟨w.heap.size, 3, none⟩), .slice ta T.length tc, .int .i64 T.length, .bool false, u79, u80, u81, u82, u83, u84, u85, u86, u87, u88, u89, u90, .int .i64 T.length, .pointer (some ⟨w.heap.size, 3, none⟩), .slice ta T.length tc, .int .i64 T.length, .bool false, u96, u97, u98, u99, u100, u101, u102, u103, u104, u105, u106, .agg #[.int .i64 wd, .int .i64 hg, .slice oa gn oc, .slice ta T.length tc, .slice ha zn hc], pickIf l0 (.slice (some ⟨A, 0, none⟩) 0 0) (undef), pickIf l1 (.pointer (some ⟨w.heap.size, 3, none⟩)) (undef), pickIf l2 (.slice ta T.length tc) (undef), pickIf l3 (V) (undef), pickIf l4 (.int .i64 id) (undef), pickIf l5 (.agg #[.int .i64 px, .int .i64 py]) (undef), pickIf l6 (.int .i64 height) (undef), pickIf l7 (.agg #[.int .i64 id, .int .i64 px, .int .i64 py, .int .i64 height]) (undef), pickIf l8 (.slice (some ⟨B, 0, none⟩) 1 1) (undef), undef, undef, undef, undef, undef, undef, undef, undef, undef, undef, undef, undef, undef, undef, undef, undef, undef, undef, undef, undef, undef, undef, undef, undef, undef, undef, undef, undef, undef, undef, undef, undef, undef, undef, undef, undef, undef, undef, undef, undef, undef, undef, undef, undef, undef, undef, undef, undef, undef, undef, undef, undef, undef, undef, undef, undef, undef, undef, undef, undef, undef, undef, undef, undef, undef, undef, undef, undef, undef], defers := [] } ∧ Below Wd.heap.size Wd w' ∧ (l0 = true → l3 = false → w'.ownsRow Wd.heap.size 73 4 (.slice (some ⟨A, 0, none⟩) 0 0) 0 []) ∧ (l3 = true → w'.ownsRow Wd.heap.size 73 4 (V) T.length (T.flatMap encT)) ∧ (l8 = true → w'.heap[B]? = some (.cells #[.int .i64 id, .int .i64 px, .int .i64 py, .int .i64 height] 73 (0, 0))) ∧ (l3 = true → l0 = true) ∧ (l8 = true → l0 = true → l3 = false → A ≠ B)
def BhJ (w w10 : World) (A0 B0 kk : Nat) (V0 : Value) (mx my : Int) (a8 ba : Option Addr) (c8 bc cb : Nat) (wd hg height rise tick other N id px py : Int) (oa ta ha aa : Option Addr) (gn oc tc zn hc s4 sd ac cn : Nat) (bq : Bool) (T : List Tw) (u10 u79 u80 u81 u82 u83 u84 u85 u86 u87 u88 u89 u90 u96 u97 u98 u99 u100 u101 u102 u103 u104 u105 u106 : Value) (listed : Array Bool) (a : Act) (w' : World) : Prop := ∃ (l0 l1 l2 l3 l4 l5 l6 l7 l8 l9 l10 l11 l12 l13 l14 l15 l16 l17 l18 : Bool) (A B : Nat) (V : Value), listed = #[l0, l1, l2, l3, l4, l5, l6, l7, l8, l9, l10, l11, l12, l13, l14, l15, l16, l17, l18, false, false, false] ∧ a = { tmps := #[.agg #[.int .i64 wd, .int .i64 hg, .slice oa gn oc, .slice ta T.length tc, .slice ha zn hc], .int .i64 height, .int .i64 rise, .int .i64 tick, .int .u16 other, .pointer (some ⟨w.heap.size, 0, none⟩), undef, undef, undef, undef, u10, .bool true, .pointer (some ⟨s4, 0, none⟩), .int .i64 N, .int .i64 0, .slice aa cn ac, .int .i64 0, .int .i64 id, .int .i64 T.length, .int .i64 T.length, .pointer (some ⟨sd, 0, none⟩), .slice ba cb bc, .int .i64 0, .int .i64 kk, undef, undef, .bool true, .agg #[.int .i64 wd, .int .i64 hg, .slice oa gn oc, .slice ta T.length tc, .slice ha zn hc], .bool true, .bool false, .bool false, .pointer (some ⟨w.heap.size, 0, none⟩), .pointer (some ⟨w.heap.size, 2, none⟩), .slice oa gn oc, .int .i64 gn, .bool false, .bool false, .bool false, .pointer (some ⟨w.heap.size, 3, none⟩), .slice ta T.length tc, .int .i64 T.length, .bool false, .bool false, undef, .tuple #[.agg #[.int .i64 px, .int .i64 py], .int .i64 N, .int .i64 0], .agg #[.int .i64 wd, .int .i64 hg, .slice oa gn oc, .slice ta T.length tc, .slice ha zn hc], .int .i64 height, .int .i64 rise, .int .i64 tick, .tuple #[.agg #[.int .i64 px, .int .i64 py], .int .i64 N, .int .i64 0], .agg #[.int .i64 px, .int .i64 py], .int .i64 N, .int .i64 0, .tuple #[.slice aa cn ac, .int .i64 0], .agg #[.int .i64 wd, .int .i64 hg, .slice oa gn oc, .slice ta T.length tc, .slice ha zn hc], .int .i64 rise, .int .i64 tick, .tuple #[.slice aa cn ac, .int .i64 0], .slice aa cn ac, .int .i64 0, .int .i64 0, .bool false, .bool false, .int .i64 0, .bool false, .bool false, .bool false, .pointer (some ⟨w.heap.size, 0, none⟩), .pointer (some ⟨w.heap.size, 2, none⟩), .slice oa gn oc, .int .i64 gn, .bool bq, .bool bq, undef, .int .i64 T.length, .pointer (some ⟨w.heap.size, 3, none⟩), .slice ta T.length tc, .int .i64 T.length, .bool false, u79, u80, u81, u82, u83, u84, u85, u86, u87, u88, u89, u90, .int .i64 T.length, .pointer (some ⟨w.heap.size, 3, none⟩), .slice ta T.length tc, .int .i64 T.length, .bool false, u96, u97, u98, u99, u100, u101, u102, u103, u104, u105, u106, .agg #[.int .i64 wd, .int .i64 hg, .slice oa gn oc, .slice ta T.length tc, .slice ha zn hc], .slice (some ⟨A0, 0, none⟩) 0 0, .pointer (some ⟨w.heap.size, 3, none⟩), .slice ta T.length tc, V0, .int .i64 id, .agg #[.int .i64 px, .int .i64 py], .int .i64 height, .agg #[.int .i64 id, .int .i64 px, .int .i64 py, .int .i64 height], .slice (some ⟨B0, 0, none⟩) 1 1, .slice a8 (T.length + 1) c8, .pointer (some ⟨sd, 3, none⟩), .tuple #[.slice ba cb bc, .int .i64 0], .agg #[.int .i64 wd, .int .i64 hg, .slice oa gn oc, .slice a8 (T.length + 1) c8, .slice ha zn hc], .int .i64 rise, .int .i64 tick, .tuple #[.slice ba cb bc, .int .i64 0], .slice ba cb bc, .int .i64 0, .int .u16 other, .int .i64 other, .pointer (some ⟨w.heap.size, 0, none⟩), .pointer (some ⟨w.heap.size, 2, none⟩), .slice oa gn oc, .int .i64 gn, .int .i64 kk, pickIf l0 (.slice (some ⟨A, 0, none⟩) 0 0) (undef), pickIf l1 (.pointer (some ⟨w.heap.size, 3, none⟩)) (undef), pickIf l2 (.slice ta T.length tc) (undef), pickIf l3 (V) (undef), pickIf l4 (.int .i64 id) (undef), pickIf l5 (.int .i64 kk) (undef), pickIf l6 (.pointer (some ⟨w.heap.size, 0, none⟩)) (undef), pickIf l7 (.pointer (some ⟨w.heap.size, 0, none⟩)) (undef), pickIf l8 (.int .i64 wd) (undef), pickIf l9 (.int .i64 mx) (undef), pickIf l10 (.int .i64 kk) (undef), pickIf l11 (.pointer (some ⟨w.heap.size, 0, none⟩)) (undef), pickIf l12 (.pointer (some ⟨w.heap.size, 0, none⟩)) (undef), pickIf l13 (.int .i64 wd) (undef), pickIf l14 (.int .i64 my) (undef), pickIf l15 (.agg #[.int .i64 mx, .int .i64 my]) (undef), pickIf l16 (.int .i64 height) (undef), pickIf l17 (.agg #[.int .i64 id, .int .i64 mx, .int .i64 my, .int .i64 height]) (undef), pickIf l18 (.slice (some ⟨B, 0, none⟩) 1 1) (undef), undef, undef, undef, undef, undef, undef, undef, undef, undef, undef, undef, undef, undef, undef, undef, undef, undef, undef, undef, undef, undef, undef, undef, undef, undef, undef, undef, undef, undef, undef, undef, undef, undef, undef], defers := [] } ∧ Below w10.heap.size w10 w' ∧ (l0 = true → l3 = false → w'.ownsRow w10.heap.size 73 4 (.slice (some ⟨A, 0, none⟩) 0 0) 0 []) ∧ (l3 = true → w'.ownsRow w10.heap.size 73 4 (V) T.length (T.flatMap encT)) ∧ (l18 = true → w'.heap[B]? = some (.cells #[.int .i64 id, .int .i64 mx, .int .i64 my, .int .i64 height] 73 (0, 0))) ∧ (l3 = true → l0 = true) ∧ (l18 = true → l0 = true → l3 = false → A ≠ B)
set_option maxRecDepth 100000 in
set_option maxHeartbeats 8000000 in
theorem behind_ok (wd hg : Int) (o tv hz : Value) (g : List Int) (T : List Tw) (Z : List Hz) (height rise tick other : Int) (w : World) (ho : INRow w o g) (hl : g.length ≤ 9223372036854775807) (ht : TwRow w tv T) (htl : T.length ≤ 9223372036854775807) (hh : HzRow w hz Z) (hhl : Z.length ≤ 9223372036854775807) (hot : 0 ≤ other ∧ other ≤ 65535)
    (hfb : fewB g.length T.length Z.length = true) (hg30 : g.length ≤ 30) (hT5 : T.length ≤ 5) (hE : beE wd hg g T Z height rise tick = 0) :
    Calls Try.prog 9 #[coV wd hg o tv hz, .int .i64 height, .int .i64 rise, .int .i64 tick, .int .u16 other] w fun e w' => e = .returned (.bool true) ∧ Below w.heap.size w w' := by
  have HFW := Lib.hid (fun w' (h : Below w.heap.size w w') => by have := few_any wd hg o tv hz g T Z w' (ho.keep h) (ht.keep h) (hh.keep h); rw [hfb] at this; exact this)
  have HBE := Lib.hid (fun w' (h : Below w.heap.size w w') => Best_ok wd hg o tv hz g T Z height rise tick w' (ho.keep h) hl (ht.keep h) htl (hh.keep h) hhl hE)
  have hcv : cvE wd hg g T Z rise tick = 0 := by
    unfold beE at hE; split at hE
    · assumption
    · rename_i h; exact absurd hE h
  obtain ⟨hck, hri⟩ := cvE_ok hcv
  obtain ⟨hm, _, _, hok, _, _⟩ := ckE_ok hck
  have hhe : wiB height 0 200 = true := by
    rw [beE, if_pos hcv] at hE; split at hE; assumption; cases hE
  have HCO : Hid (∀ v T' w', Below w.heap.size w w' → TwRow w' v T' → T'.length ≤ 12 → ckE wd hg g T' Z = 0 → Calls Try.prog 36 #[coV wd hg o v hz, .int .i64 rise, .int .i64 tick, .int .i64 1] w' fun e w'' => ∃ v', e = .returned (.tuple #[v', .int .i64 0]) ∧ Below w'.heap.size w' w'' ∧ PlRow w'' v' (ccL g wd T' rise (faO Z tick) g.length)) := Lib.hid (fun v T' w' h hT' hn' hck' =>
    (Covered_ok wd hg o v hz g T' Z rise tick 1 w' (ho.keep h) hl hT' (by omega) (hh.keep h) hhl (by
      unfold cvE at hcv ⊢
      rw [if_pos hck] at hcv
      rw [if_pos hck']; exact hcv) (by decide)).mono fun e w'' ⟨v', L, he, hb, hO, hw⟩ => ⟨v', he, hb, by rw [← cvL_one hO hn']; exact PlRow.of_own hw⟩)
  have HCK := Lib.hid hck
  have HOK := Lib.hid hok
  have HM := Lib.hid hm
  have HHE := Lib.hid hhe
  have HTR := Lib.hid ht
  have HOT := Lib.hid hot
  obtain ⟨oa, oc, rfl, _⟩ := ho.form
  obtain ⟨ta, tc, rfl, htc⟩ := ht.form
  have HTC := Lib.hid htc
  obtain ⟨ha, hc, rfl, _⟩ := hh.form
  obtain ⟨W1, hW1, hb0, hs1, hrd⟩ := co_reads w wd hg (.slice oa g.length oc) (.slice ta T.length tc) (.slice ha Z.length hc)
  have HW1 := Lib.hid hW1; have HB0 := Lib.hid hb0; have HRD := Lib.hid hrd
  clear hW1 hb0 hs1 hrd ho ht hh hl htl hhl hE hcv hck hri hm hok hhe htc hfb
  obtain ⟨far, hfar⟩ : ∃ x, faO Z tick = x := ⟨_, rfl⟩
  rw [hfar] at HBE HCO
  clear hfar
  unfold coV at HFW HBE HCO
  unfold coV
  have hq30 : decide (30 < (g.length : Int)) = false := by simp; omega
  have hq5 : decide (5 < (T.length : Int)) = false := by simp; omega
  obtain ⟨i0, hi0, hz0, hz1, hz2⟩ := info_parts info_tw4
  go_enter Try.func9, Try.ntmps9
  go_wp2_with fail
  rw [← HW1.out]
  refine (head_any W1).mono ?_
  rintro e w2 ⟨rfl, hb⟩
  have HD2 := Lib.hid hb
  have HB2 := Lib.hid (HB0.out.trans (hb.mono HB0.out.size))
  clear hb
  obtain ⟨p0, p1, p2, p3, p4⟩ := HRD.out w2 HD2.out
  go_wp2_with fail
  refine (HFW.out _ HB2.out).mono ?_
  rintro e w3 ⟨rfl, hb⟩
  have HD3 := Lib.hid (HD2.out.trans (hb.mono HD2.out.size))
  have HB3 := Lib.hid (HB2.out.trans (hb.mono HB2.out.size))
  clear hb p0 p1 p2 p3 p4
  obtain ⟨p0, p1, p2, p3, p4⟩ := HRD.out _ HD3.out
  go_wp2_with fail
  refine (HBE.out _ HB3.out).mono ?_
  rintro e w4 ⟨kb, hkb, hbk, rfl, hb⟩
  have HD4 := Lib.hid (HD3.out.trans (hb.mono HD3.out.size))
  have HB4 := Lib.hid (HB3.out.trans (hb.mono HB3.out.size))
  have HBF := Lib.hid (be_facts hkb hbk)
  have HKB := Lib.hid hkb
  obtain ⟨⟨px, py⟩, hpp⟩ : ∃ q, plI wd kb = q := ⟨_, rfl⟩
  rw [hpp] at HBF
  simp only at HBF
  have HPP := Lib.hid hpp
  obtain ⟨N, hN⟩ : ∃ n, beN g wd T height rise far = n := ⟨_, rfl⟩
  rw [hN] at HBF ⊢
  simp only [hpp]
  have hY := (Below.refl _ w4).alloc (Nat.le_refl _) (.cells #[.int .i64 px, .int .i64 py] 30)
  have HDY := Lib.hid (HD4.out.trans (hY.mono HD4.out.size))
  have HBY := Lib.hid (HB4.out.trans (hY.mono HB4.out.size))
  have HPY : Hid ((w4.alloc (.cells #[.int .i64 px, .int .i64 py] 30)).heap[w4.heap.size]? = some (.cells #[.int .i64 px, .int .i64 py] 30 (0, 0))) := Lib.hid (heap_alloc_new _ _)
  clear hb hkb hbk hpp hN hY p0 p1 p2 p3 p4
  obtain ⟨p0, p1, p2, p3, p4⟩ := HRD.out _ HDY.out
  go_wp2_with fail
  obtain ⟨Y4, hY⟩ : ∃ Y, w4.alloc (.cells #[.int .i64 px, .int .i64 py] 30) = Y := ⟨_, rfl⟩
  rw [hY] at HDY HBY HPY ⊢
  obtain ⟨s4, hs4⟩ : ∃ s, w4.heap.size = s := ⟨_, rfl⟩
  rw [hs4] at HPY ⊢
  clear hY hs4 p0 p1 p2 p3 p4
  have HTY := Lib.hid (HTR.out.keep HBY.out)
  refine (HCO.out _ T _ HBY.out HTY.out (by omega) HCK.out).mono ?_
  rintro e w5 ⟨v5, rfl, hb5, hr5⟩
  have HDA := Lib.hid hr5
  have H5 := Lib.hid hb5
  have HD5 := Lib.hid (HDY.out.trans (hb5.mono HDY.out.size))
  have HB5 := Lib.hid (HBY.out.trans (hb5.mono HBY.out.size))
  have HP5 := Lib.hid ((hb5.block _ (Array.getElem?_eq_some_iff.1 HPY.out).1).trans HPY.out)
  obtain ⟨aa, ac, rfl, _⟩ := hr5.form
  clear hb5 hr5
  obtain ⟨p0, p1, p2, p3, p4⟩ := HRD.out _ HD5.out
  have hgp : 0 < g.length := by have := HKB.out; omega
  have hgi : (0 : Int) < g.length := by omega
  have hg0 : ¬ (g.length : Int) = 0 := by omega
  go_wp2_with fail
  clear p0 p1 p2 p3 p4
  go_loopw [17, 18] (fun d i wr => ∃ (k : Nat) (id : Int), k ≤ T.length ∧ i = .int .i64 k ∧ d = .int .i64 id ∧ Hid (1 ≤ id ∧ id ≤ 1000000) ∧ Hid (Below w5.heap.size w5 wr)) (fun _ i _ => T.length - (intOf i).toNat)
  case atStart => exact ⟨0, 1, Nat.zero_le _, rfl, rfl, Lib.hid ⟨by omega, by omega⟩, Lib.hid (Below.refl _ _)⟩
  case round =>
    obtain ⟨k, id, hk, rfl, rfl, hID, hB⟩ := hrel
    have HDR := Lib.hid (HD5.out.trans (hB.out.mono HD5.out.size))
    have HBR := Lib.hid (HB5.out.trans (hB.out.mono HB5.out.size))
    obtain ⟨p0, p1, p2, p3, p4⟩ := HRD.out _ HDR.out
    by_cases hkl : k < T.length
    · obtain ⟨b, off, rfl, hb, c0, c1, c2, c3⟩ := HTC.out k hkl
      have hki : (k : Int) < T.length := by omega
      have hk0 : (0 : Int) ≤ k := by omega
      have e0 := (HBR.out.cell (p := ⟨b, _, none⟩) hb).trans c0
      have hok := (HOK.out _ (show T.getD k .nil ∈ T by rw [getD_tw hkl]; exact List.getElem_mem _)).1
      obtain ⟨ti, hti⟩ : ∃ x, (T.getD k .nil).id = x := ⟨_, rfl⟩
      rw [hti] at e0 hok
      have hti2 : 1 ≤ ti ∧ ti ≤ 1099511627776 := by unfold wiB at hok; simpa using hok
      have hid := hID.out
      clear c0 c1 c2 c3 hb hti hok
      go_wp2_with fail
      refine ⟨⟨k + 1, _, by omega, by go_num, rfl, Lib.hid (by omega), hB⟩, ?_⟩
      simp [intOf]; omega
    · obtain rfl : k = T.length := by omega
      have HBI := Lib.hid hB.out
      go_wp2_with fail
      clear p0 p1 p2 p3 p4 HDR HBR
      go_loopw [19] (fun i wr => ∃ (k : Nat), k ≤ T.length ∧ i = .int .i64 k ∧ Hid (∀ j, j < k → (T.getD j .nil).id ≠ id) ∧ Hid (Below w5.heap.size w5 wr)) (fun i _ => T.length - (intOf i).toNat)
      case atStart => exact ⟨0, Nat.zero_le _, rfl, Lib.hid (fun j h => by omega), HBI⟩
      case round =>
        clear hB HBI
        obtain ⟨k, hk, rfl, hNE, hB⟩ := hrel
        have HDR := Lib.hid (HD5.out.trans (hB.out.mono HD5.out.size))
        have HBR := Lib.hid (HB5.out.trans (hB.out.mono HB5.out.size))
        obtain ⟨p0, p1, p2, p3, p4⟩ := HRD.out _ HDR.out
        by_cases hkl : k < T.length
        · obtain ⟨b, off, rfl, hb, c0, c1, c2, c3⟩ := HTC.out k hkl
          have hki : (k : Int) < T.length := by omega
          have hk0 : (0 : Int) ≤ k := by omega
          have e0 := (HBR.out.cell (p := ⟨b, _, none⟩) hb).trans c0
          obtain ⟨ti, hti⟩ : ∃ x, (T.getD k .nil).id = x := ⟨_, rfl⟩
          rw [hti] at e0
          have HTI := Lib.hid hti
          clear c0 c1 c2 c3 hb hti
          by_cases hte : ti = id
          · subst hte
            have qq : (ti == ti) = true := by simp
            go_wp2_with fail
            go_ret
            exact ⟨rfl, HBR.out⟩
          · have qq : (ti == id) = false := by simpa using hte
            have HNE2 : Hid (∀ j, j < k + 1 → (T.getD j .nil).id ≠ id) := Lib.hid (fun j hj => by
              by_cases e : j = k
              · subst e; rw [HTI.out]; exact hte
              · exact hNE.out j (by omega))
            go_wp2_with fail
            go_roundw
            case rel => exact ⟨k + 1, by omega, by go_num, HNE2, hB⟩
            case measure => simp [intOf]; omega
        · obtain rfl : k = T.length := by omega
          have hWd := (Below.refl _ wr).alloc (Nat.le_refl _) (.cells #[.int .i64 wd, .int .i64 hg, .slice oa g.length oc, .slice ta T.length tc, .slice ha Z.length hc] 28)
          have HDd := Lib.hid (HDR.out.trans (hWd.mono HDR.out.size))
          have HBd := Lib.hid (HBR.out.trans (hWd.mono HBR.out.size))
          have H5d := Lib.hid (hB.out.trans (hWd.mono hB.out.size))
          have HXd : Hid ((wr.alloc (.cells #[.int .i64 wd, .int .i64 hg, .slice oa g.length oc, .slice ta T.length tc, .slice ha Z.length hc] 28)).heap[wr.heap.size]? = some (.cells #[.int .i64 wd, .int .i64 hg, .slice oa g.length oc, .slice ta T.length tc, .slice ha Z.length hc] 28 (0, 0))) := Lib.hid (heap_alloc_new _ _)
          obtain ⟨bq, hbq⟩ : ∃ b, ((g.length : Int) == 0) = b := ⟨_, rfl⟩
          clear hWd
          go_wp2_with fail
          rw [hbq]
          clear hbq p0 p1 p2 p3 p4
          obtain ⟨Wd, hWd⟩ : ∃ Y, wr.alloc (.cells #[.int .i64 wd, .int .i64 hg, .slice oa g.length oc, .slice ta T.length tc, .slice ha Z.length hc] 28) = Y := ⟨_, rfl⟩
          rw [hWd] at HDd HBd H5d HXd ⊢
          obtain ⟨sd, hsd⟩ : ∃ s, wr.heap.size = s := ⟨_, rfl⟩
          rw [hsd] at HXd ⊢
          have HLT : Hid (w5.heap.size ≤ sd) := Lib.hid (by rw [← hsd]; exact hB.out.size)
          have HSD : Hid (sd < Wd.heap.size) := Lib.hid (Array.getElem?_eq_some_iff.1 HXd.out).1
          clear hWd hsd hB HDR HBR
          have HID := hID
          have HRR : Hid (∀ W', Below Wd.heap.size Wd W' → W'.cell? ⟨w.heap.size, 0, none⟩ = some (.int .i64 wd) ∧ W'.cell? ⟨w.heap.size, 1, none⟩ = some (.int .i64 hg) ∧ W'.cell? ⟨w.heap.size, 2, none⟩ = some (.slice oa g.length oc) ∧ W'.cell? ⟨w.heap.size, 3, none⟩ = some (.slice ta T.length tc) ∧ W'.cell? ⟨w.heap.size, 4, none⟩ = some (.slice ha Z.length hc) ∧ W'.cell? ⟨s4, 0, none⟩ = some (.int .i64 px) ∧ W'.cell? ⟨s4, 1, none⟩ = some (.int .i64 py)) := Lib.hid (fun W' h => by
            obtain ⟨z0, z1, z2, z3, z4⟩ := HRD.out W' (HDd.out.trans (h.mono HDd.out.size))
            have hh := H5d.out.trans (h.mono H5d.out.size)
            have m := (hh.block _ (Array.getElem?_eq_some_iff.1 HP5.out).1).trans HP5.out
            exact ⟨z0, z1, z2, z3, z4, cellH m 0, cellH m 1⟩)
          have HTd : Hid (∀ W', Below Wd.heap.size Wd W' → TwRow W' (.slice ta T.length tc) T) := Lib.hid (fun W' h => HTR.out.keep (HBd.out.trans (h.mono HBd.out.size)))
          refine wp_region_invtail 9 (by kernel_rfl) (by kernel_rfl) (by kernel_rfl) (by kernel_rfl) (of_decide_eq_true (by kernel_rfl)) (by kernel_rfl) (BhI w Wd wd hg height rise tick other N id px py oa ta ha aa g.length oc tc Z.length hc s4 sd ac (ccL g wd T rise far g.length).length bq T u10 u79 u80 u81 u82 u83 u84 u85 u86 u87 u88 u89 u90 u96 u97 u98 u99 u100 u101 u102 u103 u104 u105 u106) ⟨false, false, false, false, false, false, false, false, false, 0, 0, undef, rfl, rfl, (Below.refl _ Wd).drew, by simp, by simp, by simp, by simp, by simp⟩ ?hendA ?hstepA
          case hstepA =>
            rintro listed a w' i ⟨l0, l1, l2, l3, l4, l5, l6, l7, l8, A, B, V, rfl, rfl, hb, hA, hV, hBB, kV, hAB⟩ hi hin
            obtain ⟨hf, o', ho', hp⟩ := mem_ready.1 hi
            clear hi
            have hQD := HRR.out w' hb
            match i, hin with
            | 0, _ =>
              obtain rfl : l0 = false := hf
              obtain rfl : l3 = false := by
                cases l3 with
                | false => rfl
                | true => exact absurd (kV rfl) (by decide)
              clear hp ho'
              unfold wpOp
              go_simp
              exact .inl ⟨true, l1, l2, false, l4, l5, l6, l7, l8, w'.heap.size, B, V, rfl, rfl, hb.alloc hb.size _, fun _ _ => own_base (World.ownsRow_made w' #[] 0 (Nat.le_refl _) (by unfold maxLen; omega) (by simp)) hb.size, fun h => (by cases h), fun h => (gNe _ _ _ (by have := (Array.getElem?_eq_some_iff.1 (hBB h)).1; omega)).trans (hBB h), fun h => (by cases h), fun h _ _ => by have := (Array.getElem?_eq_some_iff.1 (hBB h)).1; omega⟩
            | 1, _ =>
              obtain rfl : l1 = false := hf
              clear hp ho'
              unfold wpOp
              obtain ⟨q0, q1, q2, q3, q4, q5, q6⟩ := hQD
              go_simp
              exact .inl ⟨l0, true, l2, l3, l4, l5, l6, l7, l8, A, B, V, rfl, rfl, hb, hA, hV, hBB, kV, hAB⟩
            | 2, _ =>
              obtain rfl : l2 = false := hf
              cases ho'
              obtain rfl : l1 = true := hp ⟨1, .data⟩ (by simp) rfl
              clear hp
              unfold wpOp
              simp only [pickIf_true]
              obtain ⟨q0, q1, q2, q3, q4, q5, q6⟩ := hQD
              go_simp
              exact .inl ⟨l0, true, true, l3, l4, l5, l6, l7, l8, A, B, V, rfl, rfl, hb, hA, hV, hBB, kV, hAB⟩
            | 3, _ =>
              obtain rfl : l3 = false := hf
              cases ho'
              obtain rfl : l0 = true := hp ⟨0, .data⟩ (by simp) rfl
              obtain rfl : l2 = true := hp ⟨2, .data⟩ (by simp) rfl
              clear hp
              unfold wpOp
              simp only [pickIf_true, List.getElem?_toArray, List.getElem?_cons_succ, List.getElem?_cons_zero]
              refine if_wanted rfl (tower_append rfl _ _ rfl Wd.heap.size (.slice (some ⟨A, 0, none⟩) 0 0) 0 [] rfl (hA rfl rfl) _ T rfl (HTd.out w' hb) (by omega) (by omega) hb.size ?_)
              intro v' w9 hown' hgrow
              rw [Nat.zero_add, List.nil_append] at hown'
              exact ⟨true, l1, true, true, l4, l5, l6, l7, l8, A, B, v', rfl, rfl, hb.grown hgrow hb.size (fun j e => (World.ownsRow.lt (hA rfl rfl) j e).1), fun _ h => (by cases h), fun _ => hown', fun h => (hgrow.block B (Array.getElem?_eq_some_iff.1 (hBB h)).1 (fun e => hAB h rfl rfl (by simpa [Value.ownBlock] using e.symm))).trans (hBB h), fun _ => rfl, fun _ _ h => by cases h⟩
            | 4, _ =>
              obtain rfl : l4 = false := hf
              clear hp ho'
              unfold wpOp
              obtain ⟨q0, q1, q2, q3, q4, q5, q6⟩ := hQD
              go_simp
              exact .inl ⟨l0, l1, l2, l3, true, l5, l6, l7, l8, A, B, V, rfl, rfl, hb, hA, hV, hBB, kV, hAB⟩
            | 5, _ =>
              obtain rfl : l5 = false := hf
              clear hp ho'
              unfold wpOp
              obtain ⟨q0, q1, q2, q3, q4, q5, q6⟩ := hQD
              go_simp
              exact .inl ⟨l0, l1, l2, l3, l4, true, l6, l7, l8, A, B, V, rfl, rfl, hb, hA, hV, hBB, kV, hAB⟩
            | 6, _ =>
              obtain rfl : l6 = false := hf
              clear hp ho'
              unfold wpOp
              obtain ⟨q0, q1, q2, q3, q4, q5, q6⟩ := hQD
              go_simp
              exact .inl ⟨l0, l1, l2, l3, l4, l5, true, l7, l8, A, B, V, rfl, rfl, hb, hA, hV, hBB, kV, hAB⟩
            | 7, _ =>
              obtain rfl : l7 = false := hf
              cases ho'
              obtain rfl : l4 = true := hp ⟨4, .data⟩ (by simp) rfl
              obtain rfl : l5 = true := hp ⟨5, .data⟩ (by simp) rfl
              obtain rfl : l6 = true := hp ⟨6, .data⟩ (by simp) rfl
              clear hp
              unfold wpOp
              simp only [pickIf_true]
              obtain ⟨q0, q1, q2, q3, q4, q5, q6⟩ := hQD
              go_simp
              exact .inl ⟨l0, l1, l2, l3, true, true, true, true, l8, A, B, V, rfl, rfl, hb, hA, hV, hBB, kV, hAB⟩
            | 8, _ =>
              obtain rfl : l8 = false := hf
              cases ho'
              obtain rfl : l7 = true := hp ⟨7, .data⟩ (by simp) rfl
              clear hp
              unfold wpOp
              simp only [pickIf_true]
              go_simp
              exact .inl ⟨l0, l1, l2, l3, l4, l5, l6, true, true, A, w'.heap.size, V, rfl, rfl, hb.alloc hb.size _, fun h1 h2 => (hA h1 h2).alloc _, fun h => (hV h).alloc _, fun _ => heap_alloc_new _ _, kV, fun _ h1 h2 => by have := World.ownsRow.lt (hA h1 h2) A rfl; omega⟩
          case hendA =>
            intro listed a w' hI hall
            obtain ⟨l0, l1, l2, l3, l4, l5, l6, l7, l8, A, B, V, rfl, rfl, hb, hA, hV, hBB, kV, hAB⟩ := hI
            obtain ⟨rfl, rfl, rfl, rfl, rfl, rfl, rfl, rfl, rfl⟩ : l0 = true ∧ l1 = true ∧ l2 = true ∧ l3 = true ∧ l4 = true ∧ l5 = true ∧ l6 = true ∧ l7 = true ∧ l8 = true := ⟨hall 0 (by decide), hall 1 (by decide), hall 2 (by decide), hall 3 (by decide), hall 4 (by decide), hall 5 (by decide), hall 6 (by decide), hall 7 (by decide), hall 8 (by decide)⟩
            have hv := hV rfl
            have hbx := hBB rfl
            have HW' := Lib.hid hb
            clear hA hV hBB kV hAB hall
            simp only [pickIf_true, List.drop_succ_cons, List.drop_zero]
            have h63 : T.length + 1 ≤ maxLen := by unfold maxLen; omega
            have hby : (T.length + 1) * 32 ≤ 140737488355328 := by omega
            have hbase := hb.size
            go_wp2_with (at_builtin; refine wpList_append_own _ rfl _ _ 25 rfl Wd.heap.size 73 i0 (.agg #[.int .i64 0, .int .i64 0, .int .i64 0, .int .i64 0]) 4 32 Try.underlying25 hi0 hz0 hz1 hz2 rfl (by decide) _ _ _ rfl hv ⟨B, 0, none⟩ 1 1 [.int .i64 id, .int .i64 px, .int .i64 py, .int .i64 height] rfl rfl (four_at hbx) (by simp [Value.oneCell']) h63 hby hbase ?_; intro v8 w8 hown8 hgrow8 _; obtain ⟨a8, c8, rfl⟩ := row_form hown8; have hb8 := HW'.out.grown hgrow8 hbase (fun j e => (World.ownsRow.lt hv j e).1); have hd8 := (hb8.block _ (Array.getElem?_eq_some_iff.1 HXd.out).1).trans HXd.out; have HB8 := Lib.hid hb8; have HD8 := Lib.hid hd8; have HOW8 := Lib.hid hown8; have x0 := cellH hd8 0; have x1 := cellH hd8 1; have x2 := cellH hd8 2; have x3 := cellH hd8 3; have x4 := cellH hd8 4; have xf := freeH hd8; simp only [List.getElem?_toArray, List.getElem?_cons_zero, List.getElem?_cons_succ] at x0 x1 x2 x3 x4; clear hb8 hd8 hown8 hgrow8)
            have HTW := Lib.hid (TwRow.of_own (l := T ++ [⟨id, px, py, height⟩]) (by rw [List.length_append, List.flatMap_append]; exact HOW8.out))
            have HB8w := Lib.hid (HBd.out.trans (HB8.out.mono HBd.out.size))
            have HZD : Hid ((w8.setCell ⟨sd, 3, none⟩ (.slice a8 (T.length + 1) c8)).heap[sd]? = some (.cells #[.int .i64 wd, .int .i64 hg, .slice oa g.length oc, .slice a8 (T.length + 1) c8, .slice ha Z.length hc] 28 (0, 0))) := Lib.hid (heap_same HD8.out 3 _)
            have HZB : Hid (Below w5.heap.size w5 (w8.setCell ⟨sd, 3, none⟩ (.slice a8 (T.length + 1) c8))) := Lib.hid ((H5d.out.trans (HB8.out.mono H5d.out.size)).setCell (p := ⟨sd, 3, none⟩) HLT.out _)
            have HZT : Hid (TwRow (w8.setCell ⟨sd, 3, none⟩ (.slice a8 (T.length + 1) c8)) (.slice a8 (T.length + 1) c8) (T ++ [⟨id, px, py, height⟩])) := Lib.hid (TwRow.of_own (l := T ++ [⟨id, px, py, height⟩]) (by rw [List.length_append, List.flatMap_append]; exact ownsRow_setCell_below HOW8.out (a := ⟨sd, 3, none⟩) HSD.out _))
            clear HTW HB8w
            obtain ⟨ZZ, hZZ⟩ : ∃ z, w8.setCell ⟨sd, 3, none⟩ (.slice a8 (T.length + 1) c8) = z := ⟨_, rfl⟩
            rw [hZZ] at HZD HZB HZT ⊢
            clear hZZ hbx hv x0 x1 x2 x3 x4 xf HOW8 HD8 HB8 HXd H5d HBd HDd HRR HTd HW' hb
            have HCKN : Hid (∀ x y, onB wd hg (x, y) = true → ckE wd hg g (T ++ [⟨id, x, y, height⟩]) Z = 0) := Lib.hid (fun x y hxy => ck_more HCK.out (by omega) ⟨(by have := HID.out; unfold wiB; simp; omega), hxy, HHE.out⟩ (fun u hu => by
              obtain ⟨j, hj, rfl⟩ := List.getElem_of_mem hu
              have := hNE.out j hj
              rwa [getD_tw hj] at this))
            have HPON : Hid (onB wd hg (px, py) = true) := Lib.hid (by rw [← HPP.out]; exact plI_on HM.out HKB.out)
            have HB9 := Lib.hid (HB5.out.trans (HZB.out.mono HB5.out.size))
            have HD9 := Lib.hid (HD5.out.trans (HZB.out.mono HD5.out.size))
            have HC9 := HCO.out (.slice a8 (T.length + 1) c8) (T ++ [⟨id, px, py, height⟩]) ZZ HB9.out HZT.out (by simp; omega) (HCKN.out px py HPON.out)
            have HWD : Hid (wd ≠ 0 ∧ 1 ≤ wd ∧ wd ≤ 49) := Lib.hid (by obtain ⟨a1, a2, _⟩ := vmB_ok HM.out; omega)
            refine HC9.mono ?_
            rintro e w10 ⟨v10, rfl, hb10, hr10⟩
            have HR10 := Lib.hid hr10
            have HB10 := Lib.hid (HB9.out.trans (hb10.mono HB9.out.size))
            have HD10 := Lib.hid (HD9.out.trans (hb10.mono HD9.out.size))
            have H510 := Lib.hid (HZB.out.trans (hb10.mono HZB.out.size))
            have HZ10 := Lib.hid ((hb10.block _ (Array.getElem?_eq_some_iff.1 HZD.out).1).trans HZD.out)
            obtain ⟨ba, bc, rfl, _⟩ := hr10.form
            obtain ⟨p0, p1, p2, p3, p4⟩ := HRD.out _ HD10.out
            have hw0 := HWD.out.1
            have ho0 := HOT.out
            have ho1 : IntKind.i64.wrap other = other := IntWalk.i64_in _ (by omega)
            clear HC9 hb10 hr10 HZT HZD HZB HB9 HD9
            go_wp2_with fail
            obtain ⟨kk, hkk⟩ : ∃ n : Nat, other % (g.length : Int) = n := ⟨(other % (g.length : Int)).toNat, by have := Int.emod_nonneg other (by omega : (g.length : Int) ≠ 0); omega⟩
            have hkl2 : kk < g.length := by have := Int.emod_lt_of_pos other (by omega : 0 < (g.length : Int)); omega
            rw [hkk]
            obtain ⟨cb, hcb⟩ : ∃ n, (ccL g wd (T ++ [⟨id, px, py, height⟩]) rise far g.length).length = n := ⟨_, rfl⟩
            rw [hcb]
            have hwb := HWD.out.2
            have hm0 := Int.emod_nonneg (kk : Int) hw0
            have hm1 := Int.emod_lt_of_pos (kk : Int) (by omega : 0 < wd)
            have hd0 := Int.ediv_nonneg (a := (kk : Int)) (b := wd) (by omega) (by omega)
            have hd9 := Int.ediv_le_self wd (by omega : 0 ≤ (kk : Int))
            have d1 : (kk : Int).tdiv wd = (kk : Int) / wd := Int.tdiv_eq_ediv_of_nonneg (by omega)
            have d3 : (kk : Int).tmod wd = (kk : Int) % wd := Int.tmod_eq_emod_of_nonneg (by omega)
            obtain ⟨mx, hmx⟩ : ∃ x, (kk : Int) % wd = x := ⟨_, rfl⟩
            obtain ⟨my, hmy⟩ : ∃ x, (kk : Int) / wd = x := ⟨_, rfl⟩
            rw [hmx] at hm0 hm1 d3
            rw [hmy] at hd0 hd9 d1
            have HMM : Hid (plI wd kk = (mx, my)) := Lib.hid (by unfold plI; rw [hmx, hmy])
            have HKK := Lib.hid hkl2
            have HCB := Lib.hid hcb
            have hxw : IntKind.i64.wrap mx = mx := IntWalk.i64_in _ (by omega)
            have hyw : IntKind.i64.wrap my = my := IntWalk.i64_in _ (by omega)
            have hyw2 : wrap64 my = my := w64 (by omega)
            have hxw2 : wrap64 mx = mx := w64 (by omega)
            have HT2 : Hid (∀ W', Below w10.heap.size w10 W' → TwRow W' (.slice ta T.length tc) T) := Lib.hid (fun W' h => HTR.out.keep (HB10.out.trans (h.mono HB10.out.size)))
            have HR2 := Lib.hid (fun W' (h : Below w10.heap.size w10 W') => HRD.out W' (HD10.out.trans (h.mono HD10.out.size)))
            have HSD2 : Hid (sd < w10.heap.size) := Lib.hid (Array.getElem?_eq_some_iff.1 HZ10.out).1
            clear hkk hcb hkl2 p0 p1 p2 p3 p4 ho0 ho1
            refine wp_region_invtail 19 (by kernel_rfl) (by kernel_rfl) (by kernel_rfl) (by kernel_rfl) (of_decide_eq_true (by kernel_rfl)) (by kernel_rfl) (BhJ w w10 A B kk V mx my a8 ba c8 bc cb wd hg height rise tick other N id px py oa ta ha aa g.length oc tc Z.length hc s4 sd ac (ccL g wd T rise far g.length).length bq T u10 u79 u80 u81 u82 u83 u84 u85 u86 u87 u88 u89 u90 u96 u97 u98 u99 u100 u101 u102 u103 u104 u105 u106) ⟨false, false, false, false, false, false, false, false, false, false, false, false, false, false, false, false, false, false, false, 0, 0, undef, rfl, rfl, (Below.refl _ w10).drew, by simp, by simp, by simp, by simp, by simp⟩ ?hendB ?hstepB
            case hstepB =>
              rintro listed a w' i ⟨l0, l1, l2, l3, l4, l5, l6, l7, l8, l9, l10, l11, l12, l13, l14, l15, l16, l17, l18, A2, B2, V2, rfl, rfl, hb, hA, hV, hBB, kV, hAB⟩ hi hin
              obtain ⟨hf, o', ho', hp⟩ := mem_ready.1 hi
              clear hi
              have hQD := HR2.out w' hb
              obtain rfl | rfl | rfl | rfl | rfl | rfl | rfl | rfl | rfl | rfl | rfl | rfl | rfl | rfl | rfl | rfl | rfl | rfl | rfl : i = 0 ∨ i = 1 ∨ i = 2 ∨ i = 3 ∨ i = 4 ∨ i = 5 ∨ i = 6 ∨ i = 7 ∨ i = 8 ∨ i = 9 ∨ i = 10 ∨ i = 11 ∨ i = 12 ∨ i = 13 ∨ i = 14 ∨ i = 15 ∨ i = 16 ∨ i = 17 ∨ i = 18 := by omega
              ·
                obtain rfl : l0 = false := hf
                obtain rfl : l3 = false := by
                  cases l3 with
                  | false => rfl
                  | true => exact absurd (kV rfl) (by decide)
                clear hp ho'
                unfold wpOp
                go_simp
                exact .inl ⟨true, l1, l2, false, l4, l5, l6, l7, l8, l9, l10, l11, l12, l13, l14, l15, l16, l17, l18, w'.heap.size, B2, V2, rfl, rfl, hb.alloc hb.size _, fun _ _ => own_base (World.ownsRow_made w' #[] 0 (Nat.le_refl _) (by unfold maxLen; omega) (by simp)) hb.size, fun h => (by cases h), fun h => (gNe _ _ _ (by have := (Array.getElem?_eq_some_iff.1 (hBB h)).1; omega)).trans (hBB h), fun h => (by cases h), fun h _ _ => by have := (Array.getElem?_eq_some_iff.1 (hBB h)).1; omega⟩
              ·
                obtain rfl : l1 = false := hf
                clear hp ho'
                unfold wpOp
                obtain ⟨q0, q1, q2, q3, q4⟩ := hQD
                go_simp
                exact .inl ⟨l0, true, l2, l3, l4, l5, l6, l7, l8, l9, l10, l11, l12, l13, l14, l15, l16, l17, l18, A2, B2, V2, rfl, rfl, hb, hA, hV, hBB, kV, hAB⟩
              ·
                obtain rfl : l2 = false := hf
                cases ho'
                obtain rfl : l1 = true := hp ⟨1, .data⟩ (by simp) rfl
                clear hp
                unfold wpOp
                simp only [pickIf_true]
                obtain ⟨q0, q1, q2, q3, q4⟩ := hQD
                go_simp
                exact .inl ⟨l0, true, true, l3, l4, l5, l6, l7, l8, l9, l10, l11, l12, l13, l14, l15, l16, l17, l18, A2, B2, V2, rfl, rfl, hb, hA, hV, hBB, kV, hAB⟩
              ·
                obtain rfl : l3 = false := hf
                cases ho'
                obtain rfl : l0 = true := hp ⟨0, .data⟩ (by simp) rfl
                obtain rfl : l2 = true := hp ⟨2, .data⟩ (by simp) rfl
                clear hp
                unfold wpOp
                simp only [pickIf_true, List.getElem?_toArray, List.getElem?_cons_succ, List.getElem?_cons_zero]
                refine if_wanted rfl (tower_append rfl _ _ rfl w10.heap.size (.slice (some ⟨A2, 0, none⟩) 0 0) 0 [] rfl (hA rfl rfl) _ T rfl (HT2.out w' hb) (by omega) (by omega) hb.size ?_)
                intro v' w9 hown' hgrow
                rw [Nat.zero_add, List.nil_append] at hown'
                exact ⟨true, l1, true, true, l4, l5, l6, l7, l8, l9, l10, l11, l12, l13, l14, l15, l16, l17, l18, A2, B2, v', rfl, rfl, hb.grown hgrow hb.size (fun j e => (World.ownsRow.lt (hA rfl rfl) j e).1), fun _ h => (by cases h), fun _ => hown', fun h => (hgrow.block B2 (Array.getElem?_eq_some_iff.1 (hBB h)).1 (fun e => hAB h rfl rfl (by simpa [Value.ownBlock] using e.symm))).trans (hBB h), fun _ => rfl, fun _ _ h => by cases h⟩
              ·
                obtain rfl : l4 = false := hf
                clear hp ho'
                unfold wpOp
                obtain ⟨q0, q1, q2, q3, q4⟩ := hQD
                go_simp
                exact .inl ⟨l0, l1, l2, l3, true, l5, l6, l7, l8, l9, l10, l11, l12, l13, l14, l15, l16, l17, l18, A2, B2, V2, rfl, rfl, hb, hA, hV, hBB, kV, hAB⟩
              ·
                obtain rfl : l5 = false := hf
                clear hp ho'
                unfold wpOp
                obtain ⟨q0, q1, q2, q3, q4⟩ := hQD
                go_simp
                exact .inl ⟨l0, l1, l2, l3, l4, true, l6, l7, l8, l9, l10, l11, l12, l13, l14, l15, l16, l17, l18, A2, B2, V2, rfl, rfl, hb, hA, hV, hBB, kV, hAB⟩
              ·
                obtain rfl : l6 = false := hf
                clear hp ho'
                unfold wpOp
                obtain ⟨q0, q1, q2, q3, q4⟩ := hQD
                go_simp
                exact .inl ⟨l0, l1, l2, l3, l4, l5, true, l7, l8, l9, l10, l11, l12, l13, l14, l15, l16, l17, l18, A2, B2, V2, rfl, rfl, hb, hA, hV, hBB, kV, hAB⟩
              ·
                obtain rfl : l7 = false := hf
                cases ho'
                obtain rfl : l6 = true := hp ⟨6, .data⟩ (by simp) rfl
                clear hp
                unfold wpOp
                simp only [pickIf_true]
                obtain ⟨q0, q1, q2, q3, q4⟩ := hQD
                go_simp
                exact .inl ⟨l0, l1, l2, l3, l4, l5, true, true, l8, l9, l10, l11, l12, l13, l14, l15, l16, l17, l18, A2, B2, V2, rfl, rfl, hb, hA, hV, hBB, kV, hAB⟩
              ·
                obtain rfl : l8 = false := hf
                cases ho'
                obtain rfl : l7 = true := hp ⟨7, .data⟩ (by simp) rfl
                clear hp
                unfold wpOp
                simp only [pickIf_true]
                obtain ⟨q0, q1, q2, q3, q4⟩ := hQD
                go_simp
                exact .inl ⟨l0, l1, l2, l3, l4, l5, l6, true, true, l9, l10, l11, l12, l13, l14, l15, l16, l17, l18, A2, B2, V2, rfl, rfl, hb, hA, hV, hBB, kV, hAB⟩
              ·
                obtain rfl : l9 = false := hf
                cases ho'
                obtain rfl : l5 = true := hp ⟨5, .data⟩ (by simp) rfl
                obtain rfl : l8 = true := hp ⟨8, .data⟩ (by simp) rfl
                clear hp
                unfold wpOp
                simp only [pickIf_true]
                obtain ⟨q0, q1, q2, q3, q4⟩ := hQD
                go_simp
                exact .inl ⟨l0, l1, l2, l3, l4, true, l6, l7, true, true, l10, l11, l12, l13, l14, l15, l16, l17, l18, A2, B2, V2, rfl, rfl, hb, hA, hV, hBB, kV, hAB⟩
              ·
                obtain rfl : l10 = false := hf
                clear hp ho'
                unfold wpOp
                obtain ⟨q0, q1, q2, q3, q4⟩ := hQD
                go_simp
                exact .inl ⟨l0, l1, l2, l3, l4, l5, l6, l7, l8, l9, true, l11, l12, l13, l14, l15, l16, l17, l18, A2, B2, V2, rfl, rfl, hb, hA, hV, hBB, kV, hAB⟩
              ·
                obtain rfl : l11 = false := hf
                clear hp ho'
                unfold wpOp
                obtain ⟨q0, q1, q2, q3, q4⟩ := hQD
                go_simp
                exact .inl ⟨l0, l1, l2, l3, l4, l5, l6, l7, l8, l9, l10, true, l12, l13, l14, l15, l16, l17, l18, A2, B2, V2, rfl, rfl, hb, hA, hV, hBB, kV, hAB⟩
              ·
                obtain rfl : l12 = false := hf
                cases ho'
                obtain rfl : l11 = true := hp ⟨11, .data⟩ (by simp) rfl
                clear hp
                unfold wpOp
                simp only [pickIf_true]
                obtain ⟨q0, q1, q2, q3, q4⟩ := hQD
                go_simp
                exact .inl ⟨l0, l1, l2, l3, l4, l5, l6, l7, l8, l9, l10, true, true, l13, l14, l15, l16, l17, l18, A2, B2, V2, rfl, rfl, hb, hA, hV, hBB, kV, hAB⟩
              ·
                obtain rfl : l13 = false := hf
                cases ho'
                obtain rfl : l12 = true := hp ⟨12, .data⟩ (by simp) rfl
                clear hp
                unfold wpOp
                simp only [pickIf_true]
                obtain ⟨q0, q1, q2, q3, q4⟩ := hQD
                go_simp
                exact .inl ⟨l0, l1, l2, l3, l4, l5, l6, l7, l8, l9, l10, l11, true, true, l14, l15, l16, l17, l18, A2, B2, V2, rfl, rfl, hb, hA, hV, hBB, kV, hAB⟩
              ·
                obtain rfl : l14 = false := hf
                cases ho'
                obtain rfl : l10 = true := hp ⟨10, .data⟩ (by simp) rfl
                obtain rfl : l13 = true := hp ⟨13, .data⟩ (by simp) rfl
                clear hp
                unfold wpOp
                simp only [pickIf_true]
                obtain ⟨q0, q1, q2, q3, q4⟩ := hQD
                go_simp
                exact .inl ⟨l0, l1, l2, l3, l4, l5, l6, l7, l8, l9, true, l11, l12, true, true, l15, l16, l17, l18, A2, B2, V2, rfl, rfl, hb, hA, hV, hBB, kV, hAB⟩
              ·
                obtain rfl : l15 = false := hf
                cases ho'
                obtain rfl : l9 = true := hp ⟨9, .data⟩ (by simp) rfl
                obtain rfl : l14 = true := hp ⟨14, .data⟩ (by simp) rfl
                clear hp
                unfold wpOp
                simp only [pickIf_true]
                obtain ⟨q0, q1, q2, q3, q4⟩ := hQD
                go_simp
                exact .inl ⟨l0, l1, l2, l3, l4, l5, l6, l7, l8, true, l10, l11, l12, l13, true, true, l16, l17, l18, A2, B2, V2, rfl, rfl, hb, hA, hV, hBB, kV, hAB⟩
              ·
                obtain rfl : l16 = false := hf
                clear hp ho'
                unfold wpOp
                obtain ⟨q0, q1, q2, q3, q4⟩ := hQD
                go_simp
                exact .inl ⟨l0, l1, l2, l3, l4, l5, l6, l7, l8, l9, l10, l11, l12, l13, l14, l15, true, l17, l18, A2, B2, V2, rfl, rfl, hb, hA, hV, hBB, kV, hAB⟩
              ·
                obtain rfl : l17 = false := hf
                cases ho'
                obtain rfl : l4 = true := hp ⟨4, .data⟩ (by simp) rfl
                obtain rfl : l15 = true := hp ⟨15, .data⟩ (by simp) rfl
                obtain rfl : l16 = true := hp ⟨16, .data⟩ (by simp) rfl
                clear hp
                unfold wpOp
                simp only [pickIf_true]
                obtain ⟨q0, q1, q2, q3, q4⟩ := hQD
                go_simp
                exact .inl ⟨l0, l1, l2, l3, true, l5, l6, l7, l8, l9, l10, l11, l12, l13, l14, true, true, true, l18, A2, B2, V2, rfl, rfl, hb, hA, hV, hBB, kV, hAB⟩
              ·
                obtain rfl : l18 = false := hf
                cases ho'
                obtain rfl : l17 = true := hp ⟨17, .data⟩ (by simp) rfl
                clear hp
                unfold wpOp
                simp only [pickIf_true]
                go_simp
                exact .inl ⟨l0, l1, l2, l3, l4, l5, l6, l7, l8, l9, l10, l11, l12, l13, l14, l15, l16, true, true, A2, w'.heap.size, V2, rfl, rfl, hb.alloc hb.size _, fun h1 h2 => (hA h1 h2).alloc _, fun h => (hV h).alloc _, fun _ => heap_alloc_new _ _, kV, fun _ h1 h2 => by have := World.ownsRow.lt (hA h1 h2) A2 rfl; omega⟩
            case hendB =>
              intro listed a w' hI hall
              obtain ⟨l0, l1, l2, l3, l4, l5, l6, l7, l8, l9, l10, l11, l12, l13, l14, l15, l16, l17, l18, A2, B2, V2, rfl, rfl, hb, hA, hV, hBB, kV, hAB⟩ := hI
              obtain ⟨rfl, rfl, rfl, rfl, rfl, rfl, rfl, rfl, rfl, rfl, rfl, rfl, rfl, rfl, rfl, rfl, rfl, rfl, rfl⟩ : l0 = true ∧ l1 = true ∧ l2 = true ∧ l3 = true ∧ l4 = true ∧ l5 = true ∧ l6 = true ∧ l7 = true ∧ l8 = true ∧ l9 = true ∧ l10 = true ∧ l11 = true ∧ l12 = true ∧ l13 = true ∧ l14 = true ∧ l15 = true ∧ l16 = true ∧ l17 = true ∧ l18 = true := ⟨hall 0 (by decide), hall 1 (by decide), hall 2 (by decide), hall 3 (by decide), hall 4 (by decide), hall 5 (by decide), hall 6 (by decide), hall 7 (by decide), hall 8 (by decide), hall 9 (by decide), hall 10 (by decide), hall 11 (by decide), hall 12 (by decide), hall 13 (by decide), hall 14 (by decide), hall 15 (by decide), hall 16 (by decide), hall 17 (by decide), hall 18 (by decide)⟩
              have hv := hV rfl
              have hbx := hBB rfl
              have HW' := Lib.hid hb
              clear hA hV hBB kV hAB hall
              simp only [pickIf_true, List.drop_succ_cons, List.drop_zero]
              have h63 : T.length + 1 ≤ maxLen := by unfold maxLen; omega
              have hby : (T.length + 1) * 32 ≤ 140737488355328 := by omega
              have hbase := hb.size
              go_wp2_with (at_builtin; refine wpList_append_own _ rfl _ _ 25 rfl w10.heap.size 73 i0 (.agg #[.int .i64 0, .int .i64 0, .int .i64 0, .int .i64 0]) 4 32 Try.underlying25 hi0 hz0 hz1 hz2 rfl (by decide) _ _ _ rfl hv ⟨B2, 0, none⟩ 1 1 [.int .i64 id, .int .i64 mx, .int .i64 my, .int .i64 height] rfl rfl (four_at hbx) (by simp [Value.oneCell']) h63 hby hbase ?_; intro v12 w12 hown12 hgrow12 _; obtain ⟨a12, c12, rfl⟩ := row_form hown12; have hb8 := HW'.out.grown hgrow12 hbase (fun j e => (World.ownsRow.lt hv j e).1); have hd8 := (hb8.block _ (Array.getElem?_eq_some_iff.1 HZ10.out).1).trans HZ10.out; have HB12 := Lib.hid hb8; have HD12 := Lib.hid hd8; have HOW12 := Lib.hid hown12; have x0 := cellH hd8 0; have x1 := cellH hd8 1; have x2 := cellH hd8 2; have x3 := cellH hd8 3; have x4 := cellH hd8 4; have xf := freeH hd8; simp only [List.getElem?_toArray, List.getElem?_cons_zero, List.getElem?_cons_succ] at x0 x1 x2 x3 x4; clear hb8 hd8 hown12 hgrow12)
              have HLT2 : Hid (Below w5.heap.size w5 w12) := Lib.hid (H510.out.trans (HB12.out.mono H510.out.size))
              have HZB2 : Hid (Below w5.heap.size w5 (w12.setCell ⟨sd, 3, none⟩ (.slice a12 (T.length + 1) c12))) := Lib.hid (HLT2.out.setCell (p := ⟨sd, 3, none⟩) HLT.out _)
              have HZT2 : Hid (TwRow (w12.setCell ⟨sd, 3, none⟩ (.slice a12 (T.length + 1) c12)) (.slice a12 (T.length + 1) c12) (T ++ [⟨id, mx, my, height⟩])) := Lib.hid (TwRow.of_own (l := T ++ [⟨id, mx, my, height⟩]) (by rw [List.length_append, List.flatMap_append]; exact ownsRow_setCell_below HOW12.out (a := ⟨sd, 3, none⟩) HSD2.out _))
              obtain ⟨Y2, hY2⟩ : ∃ z, w12.setCell ⟨sd, 3, none⟩ (.slice a12 (T.length + 1) c12) = z := ⟨_, rfl⟩
              rw [hY2] at HZB2 HZT2 ⊢
              clear hY2 hbx hv x0 x1 x2 x3 x4 xf HOW12 HD12 HB12
              have HPO2 : Hid (onB wd hg (mx, my) = true) := Lib.hid (by rw [← HMM.out]; exact plI_on HM.out HKK.out)
              have HB13 := Lib.hid (HB5.out.trans (HZB2.out.mono HB5.out.size))
              have HC13 := HCO.out (.slice a12 (T.length + 1) c12) (T ++ [⟨id, mx, my, height⟩]) Y2 HB13.out HZT2.out (by simp; omega) (HCKN.out mx my HPO2.out)
              refine HC13.mono ?_
              rintro e w14 ⟨v14, rfl, hb14, hr14⟩
              obtain ⟨xa, xc, rfl, _⟩ := hr14.form
              have HB14 := Lib.hid (HB13.out.trans (hb14.mono HB13.out.size))
              have hcx := ccL_more g wd T id mx my height rise far g.length
              have hcb := ccL_more g wd T id px py height rise far g.length
              have hca := ccL_len g wd T rise far g.length
              have hnl := nsL_len g wd T rise far g.length
              have hgn := gnC_le g wd ⟨0, px, py, height⟩ rise far (nsL g wd T rise far g.length)
              have hN := HBF.out.1
              have hNm := HBF.out.2 kk HKK.out
              rw [HMM.out] at hNm
              simp only at hNm
              rw [HCB.out] at hcb
              obtain ⟨cx, hcxe⟩ : ∃ n, (ccL g wd (T ++ [⟨id, mx, my, height⟩]) rise far g.length).length = n := ⟨_, rfl⟩
              obtain ⟨ca, hcae⟩ : ∃ n, (ccL g wd T rise far g.length).length = n := ⟨_, rfl⟩
              rw [hcxe, hcae] at hcx
              rw [hcae] at hcb hca
              rw [hcxe, hcae]
              have k1 : (cb : Int) = ca + N := by omega
              have k2 : (cx : Int) ≤ cb := by omega
              have k3 : wrap64 ((ca : Int) + N) = ca + N := w64 (by omega)
              have k4 : ((cb : Int) == (ca : Int) + N) = true := by simpa using k1
              have k5 : ((ca : Int) + N == (ca : Int) + N) = true := by simp
              have k6 : IntKind.i64.wrap ((ca : Int) + N) = ca + N := IntWalk.i64_in _ (by omega)
              clear hcx hcb hca hnl hgn hN hNm hcxe hcae HC13 hb14 hr14
              go_wp2_with fail
              go_ret
              exact ⟨by first | (simp [k2]; done) | (simp; omega), HB14.out⟩
end Go.Proofs.Ytjllkmekchmmbaa
