/- RidgeCovers: Spare and Fewest answer as the reference does. -/
import Derived.Test.YtnacgogcbbpjmaaGreatHC2
import Derived.Test.YtnacgogcbbpjmaaGreatHL3
import Derived.Test.YtnacgogcbbpjmaaGreatHU3
import Derived.Test.YtnacgogcbbpjmaaGreatHU4
import Derived.Test.YtnacgogcbbpjmaaGreatHU6
set_option linter.unusedVariables false
set_option linter.unusedSimpArgs false
namespace Go.Proofs.YtnacgogcbbpjmaaGreat
open Go Go.RowKit

set_option maxRecDepth 100000 in
set_option maxHeartbeats 2000000 in
/-- Two lists of numbers that read alike are equal. -/
theorem ints_same5 (v1 v2 : Value) (l : List Int) (w : World) (h1 : INRow w v1 l) (h2 : INRow w v2 l) (hl : l.length ≤ 1000000) :
    Calls Tryz.prog 15 #[v1, v2] w fun e w' => e = .returned (.bool true) ∧ Below w.heap.size w w' := by
  obtain ⟨oa, ocap, rfl, hc1⟩ := h1.form
  obtain ⟨pa, pcap, rfl, hc2⟩ := h2.form
  have HC1 := Lib.hid hc1
  have HC2 := Lib.hid hc2
  clear hc1 hc2 h1 h2
  go_enter Tryz.func15, Tryz.ntmps15
  go_wp2_with fail
  go_loopw [5] (fun i wr => ∃ (k : Nat), k ≤ l.length ∧ i = .int .i64 k ∧ Hid (Below w.heap.size w wr)) (fun i _ => l.length - (intOf i).toNat)
  case atStart => exact ⟨0, Nat.zero_le _, rfl, Lib.hid (Below.refl _ _)⟩
  case round =>
    obtain ⟨k, hk, rfl, hB⟩ := hrel
    by_cases hkl : k < l.length
    · obtain ⟨b, off, rfl, hb, c0⟩ := HC1.out k hkl
      obtain ⟨b', off', rfl, hb', d0⟩ := HC2.out k hkl
      have hki : (k : Int) < l.length := by omega
      have hk0 : (0 : Int) ≤ k := by omega
      have e0 := (hB.out.cell (p := ⟨b, _, none⟩) hb).trans c0
      have f0 := (hB.out.cell (p := ⟨b', _, none⟩) hb').trans d0
      obtain ⟨x, hx⟩ : ∃ x, l.getD k 0 = x := ⟨_, rfl⟩
      rw [hx] at e0 f0
      clear hx c0 d0 hb hb'
      go_wp2_with fail
      go_quiet (fail)
      go_wp2_with fail
      go_roundw
      case rel => exact ⟨k + 1, by omega, by go_num, Lib.hid (below_drewN hB.out _)⟩
      case measure => simp [intOf]; omega
    · obtain rfl : k = l.length := by omega
      go_wp2_with fail
      go_ret
      exact ⟨rfl, hB.out⟩
set_option maxRecDepth 100000 in
set_option maxHeartbeats 8000000 in
theorem covers_card (wd hg : Int) (o tv hz : Value) (g : List Int) (T : List Tw) (Z : List Hz) (rise tick : Int) (w : World) (ho : INRow w o g) (hl : g.length ≤ 9223372036854775807) (ht : TwRow w tv T) (htl : T.length ≤ 9223372036854775807) (hh : HzRow w hz Z) (hhl : Z.length ≤ 9223372036854775807) (_ : -9223372036854775808 ≤ rise ∧ rise ≤ 9223372036854775807) (_ : -9223372036854775808 ≤ tick ∧ tick ≤ 9223372036854775807) :
    Calls Tryz.prog 4 #[coV wd hg o tv hz, .int .i64 rise, .int .i64 tick] w fun e w' => e = .returned (.bool true) ∧ Below w.heap.size w w' := by
  have HFW := Lib.hid (fun w' (h : Below w.heap.size w w') => few_any wd hg o tv hz g T Z w' (ho.keep h) (ht.keep h) (hh.keep h))
  have hll : ∃ ls lf : List Int, ls.length ≤ 1000000 ∧ lf.length ≤ 1000000 ∧ (cvE wd hg g T Z rise tick ≠ 0 → ls = [] ∧ lf = []) ∧ (cvE wd hg g T Z rise tick = 0 → (∀ L, Ord L T → spL g wd T rise (faO Z tick) g.length L = ls) ∧ (∀ R, FwR g wd T rise (faO Z tick) g.length R → R = lf)) := by
    by_cases hE : cvE wd hg g T Z rise tick = 0
    · obtain ⟨_, hn, _, _, hk, _⟩ := ckE_ok (cvE_ok hE).1
      obtain ⟨L, hL⟩ := ord_exists hk
      have hsp : (spL g wd T rise (faO Z tick) g.length L).length ≤ 1000000 := by
        unfold spL
        rw [List.length_map]
        have h1 := List.length_filter_le (spB g wd T rise (faO Z tick) g.length) L
        have h2 := hL.1.length_eq
        omega
      by_cases hF : ∃ R, FwR g wd T rise (faO Z tick) g.length R
      · obtain ⟨R, hR⟩ := hF
        refine ⟨spL g wd T rise (faO Z tick) g.length L, R, hsp, ?_, fun h => absurd hE h, fun _ => ⟨fun M hM => by rw [ord_unique hM hL], fun S hS => hS.unique hR⟩⟩
        have h1 := cnd_len hL hR.1
        omega
      · exact ⟨spL g wd T rise (faO Z tick) g.length L, [], hsp, by simp, fun h => absurd hE h, fun _ => ⟨fun M hM => by rw [ord_unique hM hL], fun S hS => absurd ⟨S, hS⟩ hF⟩⟩
    · exact ⟨[], [], by simp, by simp, fun _ => ⟨rfl, rfl⟩, fun h => absurd h hE⟩
  obtain ⟨ls, lf, hlsl, hlfl, hl0, hl1⟩ := hll
  have H1 := Lib.hid (fun w' (h : Below w.heap.size w w') => (by
    by_cases hE : cvE wd hg g T Z rise tick = 0
    · refine (Spare_ok wd hg o tv hz g T Z rise tick w' (ho.keep h) hl (ht.keep h) htl (hh.keep h) hhl hE).mono fun e w'' h => ?_
      obtain ⟨v, L, he, hb, hL, hr⟩ := h
      rw [(hl1 hE).1 L hL] at hr
      exact ⟨v, by rw [hE]; exact he, hb, hr⟩
    · refine (Spare_bad wd hg o tv hz g T Z rise tick w' (ho.keep h) hl (ht.keep h) htl (hh.keep h) hhl hE).mono fun e w'' h => ?_
      exact ⟨_, h.1, h.2, by rw [(hl0 hE).1]; exact .inl ⟨_, _, rfl, rfl⟩⟩ : Calls Tryz.prog 17 #[coV wd hg o tv hz, .int .i64 rise, .int .i64 tick] w' fun e w'' => ∃ v, e = Ending.returned (.tuple #[v, .int .i64 (cvE wd hg g T Z rise tick)]) ∧ Below w'.heap.size w' w'' ∧ INRow w'' v ls))
  have H2 := Lib.hid (fun w' (h : Below w.heap.size w w') => (rSpare_any wd hg o tv hz g T Z rise tick w' (ho.keep h) hl (ht.keep h) htl (hh.keep h) hhl).mono fun e w'' ⟨va, n, c, he, hb, h1, h2⟩ => (by
    refine ⟨va, n, c, he, hb, ?_⟩
    by_cases hE : cvE wd hg g T Z rise tick = 0
    · obtain ⟨out, hown, hperm, hsort⟩ := h2 hE
      obtain ⟨_, hn, _, _, hk, _⟩ := ckE_ok (cvE_ok hE).1
      obtain ⟨L, hL⟩ := ord_exists hk
      have ho' : out = spL g wd T rise (faO Z tick) g.length L := rise_fil hperm hsort hL hk
      rw [ho', (hl1 hE).1 L hL] at hown
      exact INRow.of_own hown
    · rw [h1 hE, (hl0 hE).1]; exact .inl ⟨_, _, rfl, rfl⟩ : ∃ va n c, e = Ending.returned (.agg #[.slice va n c, .int .i64 (cvE wd hg g T Z rise tick)]) ∧ Below w'.heap.size w' w'' ∧ INRow w'' (.slice va n c) ls))
  have H3 := Lib.hid (fun w' (h : Below w.heap.size w w') => (by
    by_cases hE : cvE wd hg g T Z rise tick = 0
    · refine (Fewest_ok wd hg o tv hz g T Z rise tick w' (ho.keep h) hl (ht.keep h) htl (hh.keep h) hhl hE).mono fun e w'' h => ?_
      obtain ⟨v, R, he, hb, hr, hR⟩ := h
      rw [(hl1 hE).2 R hR] at hr
      exact ⟨v, by rw [hE]; exact he, hb, hr⟩
    · refine (Fewest_bad wd hg o tv hz g T Z rise tick w' (ho.keep h) hl (ht.keep h) htl (hh.keep h) hhl hE).mono fun e w'' h => ?_
      exact ⟨_, h.1, h.2, by rw [(hl0 hE).2]; exact .inl ⟨_, _, rfl, rfl⟩⟩ : Calls Tryz.prog 19 #[coV wd hg o tv hz, .int .i64 rise, .int .i64 tick] w' fun e w'' => ∃ v, e = Ending.returned (.tuple #[v, .int .i64 (cvE wd hg g T Z rise tick)]) ∧ Below w'.heap.size w' w'' ∧ INRow w'' v lf))
  have H4 := Lib.hid (fun w' (h : Below w.heap.size w w') => (rFewest_any wd hg o tv hz g T Z rise tick w' (ho.keep h) hl (ht.keep h) htl (hh.keep h) hhl).mono fun e w'' ⟨va, n, c, he, hb, h1, h2⟩ => (by
    refine ⟨va, n, c, he, hb, ?_⟩
    by_cases hE : cvE wd hg g T Z rise tick = 0
    · obtain ⟨R, hr, hR⟩ := h2 hE
      rw [(hl1 hE).2 R hR] at hr
      exact hr
    · rw [h1 hE, (hl0 hE).2]; exact .inl ⟨_, _, rfl, rfl⟩ : ∃ va n c, e = Ending.returned (.agg #[.slice va n c, .int .i64 (cvE wd hg g T Z rise tick)]) ∧ Below w'.heap.size w' w'' ∧ INRow w'' (.slice va n c) lf))
  have HIS := Lib.hid (fun (v1 v2 : Value) (l : List Int) (w' : World) h1 h2 hl => ints_same5 v1 v2 l w' h1 h2 hl)
  have HLS := Lib.hid hlsl
  have HLF := Lib.hid hlfl
  obtain ⟨fb, hfb⟩ : ∃ b, fewB g.length T.length Z.length = b := ⟨_, rfl⟩
  rw [hfb] at HFW
  obtain ⟨E, hE⟩ : ∃ z, cvE wd hg g T Z rise tick = z := ⟨_, rfl⟩
  rw [hE] at H1 H2 H3 H4
  obtain ⟨oa, oc, rfl, _⟩ := ho.form
  obtain ⟨ta, tc, rfl, _⟩ := ht.form
  obtain ⟨za, zc, rfl, _⟩ := hh.form
  have HA : Hid (∀ W', Below (w.alloc (.cells #[.int .i64 wd, .int .i64 hg, .slice oa g.length oc, .slice ta T.length tc, .slice za Z.length zc] 28)).heap.size (w.alloc (.cells #[.int .i64 wd, .int .i64 hg, .slice oa g.length oc, .slice ta T.length tc, .slice za Z.length zc] 28)) W' → W'.cell? ⟨w.heap.size, 0, none⟩ = some (.int .i64 wd) ∧ W'.cell? ⟨w.heap.size, 1, none⟩ = some (.int .i64 hg) ∧ W'.cell? ⟨w.heap.size, 2, none⟩ = some (.slice oa g.length oc) ∧ W'.cell? ⟨w.heap.size, 3, none⟩ = some (.slice ta T.length tc) ∧ W'.cell? ⟨w.heap.size, 4, none⟩ = some (.slice za Z.length zc) ∧ Below w.heap.size w W') := Lib.hid (fun W' h => by
    have hA := (Below.refl w.heap.size w).alloc (Nat.le_refl _) (.cells #[.int .i64 wd, .int .i64 hg, .slice oa g.length oc, .slice ta T.length tc, .slice za Z.length zc] 28)
    have a := (h.block _ (Array.getElem?_eq_some_iff.1 (heap_alloc_new w (.cells #[.int .i64 wd, .int .i64 hg, .slice oa g.length oc, .slice ta T.length tc, .slice za Z.length zc] 28))).1).trans (heap_alloc_new w (.cells #[.int .i64 wd, .int .i64 hg, .slice oa g.length oc, .slice ta T.length tc, .slice za Z.length zc] 28))
    exact ⟨cellH a 0, cellH a 1, cellH a 2, cellH a 3, cellH a 4, hA.trans (h.mono hA.size)⟩)
  obtain ⟨W1, hW1⟩ : ∃ X, w.alloc (.cells #[.int .i64 wd, .int .i64 hg, .slice oa g.length oc, .slice ta T.length tc, .slice za Z.length zc] 28) = X := ⟨_, rfl⟩
  rw [hW1] at HA
  have HW1 := Lib.hid hW1
  have HRD := HA
  have HB0 := Lib.hid (HA.out W1 (Below.refl _ _)).2.2.2.2.2
  clear hW1 HA ho ht hh hl htl hhl hl0 hl1 hlsl hlfl hfb hE
  unfold coV at HFW H1 H2 H3 H4
  unfold coV
  go_enter Tryz.func4, Tryz.ntmps4
  go_wp2_with fail
  rw [HW1.out]
  refine (head_any W1).mono ?_
  rintro e w2 ⟨rfl, hb⟩
  have HD2 := Lib.hid hb
  have HB2 := Lib.hid (HB0.out.trans (hb.mono HB0.out.size))
  clear hb
  obtain ⟨p0, p1, p2, p3, p4, _⟩ := HRD.out w2 HD2.out
  go_wp2_with fail
  refine (HFW.out _ HB2.out).mono ?_
  rintro e w3 ⟨rfl, hb⟩
  have HD3 := Lib.hid (HD2.out.trans (hb.mono HD2.out.size))
  have HB3 := Lib.hid (HB2.out.trans (hb.mono HB2.out.size))
  clear hb p0 p1 p2 p3 p4
  cases fb
  · go_wp2_with fail
    go_ret
    exact ⟨rfl, HB3.out⟩
  obtain ⟨p0, p1, p2, p3, p4, _⟩ := HRD.out _ HD3.out
  go_wp2_with fail
  refine (H1.out _ HB3.out).mono ?_
  rintro e w4 ⟨v4, rfl, hb, hr4⟩
  have HD4 := Lib.hid (HD3.out.trans (hb.mono HD3.out.size))
  have HB4 := Lib.hid (HB3.out.trans (hb.mono HB3.out.size))
  have HR4 := Lib.hid hr4
  obtain ⟨a4, c4, rfl, _⟩ := hr4.form
  clear hb hr4 p0 p1 p2 p3 p4
  obtain ⟨p0, p1, p2, p3, p4, _⟩ := HRD.out _ HD4.out
  go_wp2_with fail
  refine (H2.out _ HB4.out).mono ?_
  rintro e w5 ⟨a5, n5, c5, rfl, hb, hr5⟩
  have HD5 := Lib.hid (HD4.out.trans (hb.mono HD4.out.size))
  have HB5 := Lib.hid (HB4.out.trans (hb.mono HB4.out.size))
  have hY := (Below.refl _ w5).alloc (Nat.le_refl _) (.cells #[.slice a5 n5 c5, .int .i64 E] 41)
  have HR5 := Lib.hid (hr5.keep hY)
  have HR4b := Lib.hid ((HR4.out.keep hb).keep hY)
  have HQ5 : Hid ((w5.alloc (.cells #[.slice a5 n5 c5, .int .i64 E] 41)).heap[w5.heap.size]? = some (.cells #[.slice a5 n5 c5, .int .i64 E] 41 (0, 0))) := Lib.hid (heap_alloc_new _ _)
  have HDY := Lib.hid (HD5.out.trans (hY.mono HD5.out.size))
  have HBY := Lib.hid (HB5.out.trans (hY.mono HB5.out.size))
  clear hY hr5 hb p0 p1 p2 p3 p4
  obtain ⟨p0, p1, p2, p3, p4, _⟩ := HRD.out _ HDY.out
  go_wp2_with fail
  obtain ⟨Y, hY⟩ : ∃ Y, w5.alloc (.cells #[.slice a5 n5 c5, .int .i64 E] 41) = Y := ⟨_, rfl⟩
  rw [hY] at HR5 HR4b HQ5 HDY HBY ⊢
  obtain ⟨s5, hs5⟩ : ∃ s, w5.heap.size = s := ⟨_, rfl⟩
  rw [hs5] at HQ5 ⊢
  clear hY hs5 p0 p1 p2 p3 p4
  refine (H3.out _ HBY.out).mono ?_
  rintro e w10 ⟨v10, rfl, hb, hr10⟩
  have HD10 := Lib.hid (HDY.out.trans (hb.mono HDY.out.size))
  have HB10 := Lib.hid (HBY.out.trans (hb.mono HBY.out.size))
  have HR10 := Lib.hid hr10
  have HR5b := Lib.hid (HR5.out.keep hb)
  have HR4c := Lib.hid (HR4b.out.keep hb)
  have HQ5b := Lib.hid ((hb.block _ (Array.getElem?_eq_some_iff.1 HQ5.out).1).trans HQ5.out)
  obtain ⟨a10, c10, rfl, _⟩ := hr10.form
  clear hb hr10
  obtain ⟨p0, p1, p2, p3, p4, _⟩ := HRD.out _ HD10.out
  go_wp2_with fail
  refine (H4.out _ HB10.out).mono ?_
  rintro e w11 ⟨a11, n11, c11, rfl, hb, hr11⟩
  have HB11 := Lib.hid (HB10.out.trans (hb.mono HB10.out.size))
  have hY := (Below.refl _ w11).alloc (Nat.le_refl _) (.cells #[.slice a11 n11 c11, .int .i64 E] 41)
  have HR11 := Lib.hid (hr11.keep hY)
  have HR10b := Lib.hid ((HR10.out.keep hb).keep hY)
  have HR5c := Lib.hid ((HR5b.out.keep hb).keep hY)
  have HR4d := Lib.hid ((HR4c.out.keep hb).keep hY)
  have hQ5 := (hb.block _ (Array.getElem?_eq_some_iff.1 HQ5b.out).1).trans HQ5b.out
  have HQ5c := Lib.hid ((hY.block _ (Array.getElem?_eq_some_iff.1 hQ5).1).trans hQ5)
  have HQ11 : Hid ((w11.alloc (.cells #[.slice a11 n11 c11, .int .i64 E] 41)).heap[w11.heap.size]? = some (.cells #[.slice a11 n11 c11, .int .i64 E] 41 (0, 0))) := Lib.hid (heap_alloc_new _ _)
  have HBZ := Lib.hid (HB11.out.trans (hY.mono HB11.out.size))
  have x0 := cellH HQ5c.out 0
  simp only [List.getElem?_toArray, List.getElem?_cons_zero, List.getElem?_cons_succ] at x0
  clear hY hr11 hb hQ5 p0 p1 p2 p3 p4
  go_wp2_with fail
  obtain ⟨Z2, hY⟩ : ∃ Y, w11.alloc (.cells #[.slice a11 n11 c11, .int .i64 E] 41) = Y := ⟨_, rfl⟩
  rw [hY] at HR11 HR10b HR5c HR4d HQ5c HQ11 HBZ ⊢
  obtain ⟨s11, hs11⟩ : ∃ s, w11.heap.size = s := ⟨_, rfl⟩
  rw [hs11] at HQ11 ⊢
  clear hY hs11 x0
  refine (HIS.out _ _ ls _ HR4d.out HR5c.out HLS.out).mono ?_
  rintro e w12 ⟨rfl, hb⟩
  have HB12 := Lib.hid (HBZ.out.trans (hb.mono HBZ.out.size))
  have HR11b := Lib.hid (HR11.out.keep hb)
  have HR10c := Lib.hid (HR10b.out.keep hb)
  have HQ5d := Lib.hid ((hb.block _ (Array.getElem?_eq_some_iff.1 HQ5c.out).1).trans HQ5c.out)
  have HQ11b := Lib.hid ((hb.block _ (Array.getElem?_eq_some_iff.1 HQ11.out).1).trans HQ11.out)
  have x0 := cellH HQ11b.out 0
  simp only [List.getElem?_toArray, List.getElem?_cons_zero, List.getElem?_cons_succ] at x0
  clear hb
  go_wp2_with fail
  clear x0
  refine (HIS.out _ _ lf _ HR10c.out HR11b.out HLF.out).mono ?_
  rintro e w13 ⟨rfl, hb⟩
  have HB13 := Lib.hid (HB12.out.trans (hb.mono HB12.out.size))
  have hq5 := (hb.block _ (Array.getElem?_eq_some_iff.1 HQ5d.out).1).trans HQ5d.out
  have hq11 := (hb.block _ (Array.getElem?_eq_some_iff.1 HQ11b.out).1).trans HQ11b.out
  have x1 := cellH hq5 1
  have y1 := cellH hq11 1
  simp only [List.getElem?_toArray, List.getElem?_cons_zero, List.getElem?_cons_succ] at x1 y1
  clear hb hq5 hq11
  go_wp2_with fail
  go_ret
  exact ⟨by simp, HB13.out⟩
end Go.Proofs.YtnacgogcbbpjmaaGreat
