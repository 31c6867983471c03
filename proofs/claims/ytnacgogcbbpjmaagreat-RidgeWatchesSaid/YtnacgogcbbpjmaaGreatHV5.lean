/- RidgeWatches: Far, Sees, Watchers and Covered answer as the reference does. -/
import Derived.Test.YtnacgogcbbpjmaaGreatHC2
import Derived.Test.YtnacgogcbbpjmaaGreatHL3
import Derived.Test.YtnacgogcbbpjmaaGreatHV3
import Derived.Test.YtnacgogcbbpjmaaGreatHV4
set_option linter.unusedVariables false
set_option linter.unusedSimpArgs false
namespace Go.Proofs.YtnacgogcbbpjmaaGreat
open Go Go.RowKit

set_option maxRecDepth 100000 in
set_option maxHeartbeats 2000000 in
/-- Two lists of numbers that read alike are equal. -/
theorem ints_same4 (v1 v2 : Value) (l : List Int) (w : World) (h1 : INRow w v1 l) (h2 : INRow w v2 l) (hl : l.length ≤ 1000000) :
    Calls Tryz.prog 15 #[v1, v2] w fun e w' => e = .returned (.bool true) ∧ Below w.heap.size w w' := by
  obtain ⟨oa, ocap, rfl, hc1⟩ := h1.form
  obtain ⟨pa, pcap, rfl, hc2⟩ := h2.form
  have HC1 := Lib.hid hc1
  have HC2 := Lib.hid hc2
  clear hc1 hc2 h1 h2
  go_enter Tryz.func15, Tryz.ntmps15
  go_wp2_with fail
  go_loopw [5] (fun i wr => ∃ (k : Nat), k ≤ l.length ∧ i = .int .i64 k ∧ Hid (Below w.heap.size w wr)) (fun i _ => l.length - (intOf i).toNat)
  case atStart => exact ⟨0, Nat.zero_le _, rfl, Lib.hid (Below.refl _ _)⟩
  case round =>
    obtain ⟨k, hk, rfl, hB⟩ := hrel
    by_cases hkl : k < l.length
    · obtain ⟨b, off, rfl, hb, c0⟩ := HC1.out k hkl
      obtain ⟨b', off', rfl, hb', d0⟩ := HC2.out k hkl
      have hki : (k : Int) < l.length := by omega
      have hk0 : (0 : Int) ≤ k := by omega
      have e0 := (hB.out.cell (p := ⟨b, _, none⟩) hb).trans c0
      have f0 := (hB.out.cell (p := ⟨b', _, none⟩) hb').trans d0
      obtain ⟨x, hx⟩ : ∃ x, l.getD k 0 = x := ⟨_, rfl⟩
      rw [hx] at e0 f0
      clear hx c0 d0 hb hb'
      go_wp2_with fail
      go_quiet (fail)
      go_wp2_with fail
      go_roundw
      case rel => exact ⟨k + 1, by omega, by go_num, Lib.hid (below_drewN hB.out _)⟩
      case measure => simp [intOf]; omega
    · obtain rfl : k = l.length := by omega
      go_wp2_with fail
      go_ret
      exact ⟨rfl, hB.out⟩
set_option maxRecDepth 100000 in
set_option maxHeartbeats 2000000 in
/-- Two lists of places that read alike are equal. -/
theorem places_same4 (v1 v2 : Value) (l : List Pl) (w : World) (h1 : PlRow w v1 l) (h2 : PlRow w v2 l) (hl : l.length ≤ 1000000) :
    Calls Tryz.prog 16 #[v1, v2] w fun e w' => e = .returned (.bool true) ∧ Below w.heap.size w w' := by
  obtain ⟨oa, ocap, rfl, hc1⟩ := h1.form
  obtain ⟨pa, pcap, rfl, hc2⟩ := h2.form
  have HC1 := Lib.hid hc1
  have HC2 := Lib.hid hc2
  clear hc1 hc2 h1 h2
  go_enter Tryz.func16, Tryz.ntmps16
  go_wp2_with fail
  go_loopw [5] (fun i wr => ∃ (k : Nat), k ≤ l.length ∧ i = .int .i64 k ∧ Hid (Below w.heap.size w wr)) (fun i _ => l.length - (intOf i).toNat)
  case atStart => exact ⟨0, Nat.zero_le _, rfl, Lib.hid (Below.refl _ _)⟩
  case round =>
    obtain ⟨k, hk, rfl, hB⟩ := hrel
    by_cases hkl : k < l.length
    · obtain ⟨b, off, rfl, _, hb, c0, c1⟩ := HC1.out k hkl
      obtain ⟨b', off', rfl, _, hb', d0, d1⟩ := HC2.out k hkl
      have hki : (k : Int) < l.length := by omega
      have hk0 : (0 : Int) ≤ k := by omega
      have e0 := (hB.out.cell (p := ⟨b, _, none⟩) hb).trans c0
      have e1 := (hB.out.cell (p := ⟨b, _, none⟩) hb).trans c1
      have f0 := (hB.out.cell (p := ⟨b', _, none⟩) hb').trans d0
      have f1 := (hB.out.cell (p := ⟨b', _, none⟩) hb').trans d1
      obtain ⟨⟨x, y⟩, hx⟩ : ∃ x, l.getD k (0, 0) = x := ⟨_, rfl⟩
      rw [hx] at e0 e1 f0 f1
      simp only at e0 e1 f0 f1
      clear hx c0 c1 d0 d1 hb hb'
      go_wp2_with fail
      go_quiet (fail)
      go_wp2_with fail
      go_roundw
      case rel => exact ⟨k + 1, by omega, by go_num, Lib.hid (below_drewN hB.out _)⟩
      case measure => simp [intOf]; omega
    · obtain rfl : k = l.length := by omega
      go_wp2_with fail
      go_ret
      exact ⟨rfl, hB.out⟩
theorem rise_wt {g : List Int} {wd : Int} {T L : List Tw} {p : Pl} {rise far : Int} {out : List Int} (hp : out.Perm (wtL g wd T p rise far)) (hs : out.Pairwise (· ≤ ·)) (hL : Ord L T) (hk : (T.map Tw.id).Nodup) : out = wtL g wd L p rise far := by
  have hn : out.Nodup := hp.nodup_iff.2 ((List.filter_sublist.map Tw.id).nodup hk)
  rw [List.nodup_iff_pairwise_ne] at hn
  have h1 : out.Pairwise (· < ·) := (hs.and hn).imp fun {s t} h => by have h3 := h.1; have h4 := h.2; omega
  have h2 : (wtL g wd L p rise far).Pairwise (· < ·) := by
    unfold wtL
    rw [List.pairwise_map]
    exact hL.2.sublist List.filter_sublist
  refine pw_ext (fun x y h => by omega) h1 h2 (fun x => ?_)
  rw [hp.mem_iff]
  unfold wtL
  exact ((hL.1.filter _).map Tw.id).symm.mem_iff
set_option maxRecDepth 100000 in
set_option maxHeartbeats 8000000 in
theorem watches_card (wd hg : Int) (o tv hz : Value) (g : List Int) (T : List Tw) (Z : List Hz) (id x y rise tick tw : Int) (w : World) (ho : INRow w o g) (hl : g.length ≤ 9223372036854775807) (ht : TwRow w tv T) (htl : T.length ≤ 9223372036854775807) (hh : HzRow w hz Z) (hhl : Z.length ≤ 9223372036854775807) (_ : -9223372036854775808 ≤ id ∧ id ≤ 9223372036854775807) (_ : -9223372036854775808 ≤ rise ∧ rise ≤ 9223372036854775807) (_ : -9223372036854775808 ≤ tick ∧ tick ≤ 9223372036854775807) (_ : -9223372036854775808 ≤ tw ∧ tw ≤ 9223372036854775807) :
    Calls Tryz.prog 3 #[coV wd hg o tv hz, .int .i64 id, .agg #[.int .i64 x, .int .i64 y], .int .i64 rise, .int .i64 tick, .int .i64 tw] w fun e w' => e = .returned (.bool true) ∧ Below w.heap.size w w' := by
  have HFW := Lib.hid (fun w' (h : Below w.heap.size w w') => few_any wd hg o tv hz g T Z w' (ho.keep h) (ht.keep h) (hh.keep h))
  have H1 := Lib.hid (fun w' (h : Below w.heap.size w w') => Far_any wd hg o tv hz g T Z tick w' (ho.keep h) hl (ht.keep h) htl (hh.keep h) hhl)
  have H2 := Lib.hid (fun w' (h : Below w.heap.size w w') => rFar_any wd hg o tv hz g T Z tick w' (ho.keep h) hl (ht.keep h) htl (hh.keep h) hhl)
  have H3 := Lib.hid (fun w' (h : Below w.heap.size w w') => Sees_any wd hg o tv hz g T Z id x y rise tick w' (ho.keep h) hl (ht.keep h) htl (hh.keep h) hhl)
  have H4 := Lib.hid (fun w' (h : Below w.heap.size w w') => rSees_any wd hg o tv hz g T Z id x y rise tick w' (ho.keep h) hl (ht.keep h) htl (hh.keep h) hhl)
  have hlw : ∃ lw : List Int, lw.length ≤ 1000000 ∧ (wtE wd hg g T Z (x, y) rise tick ≠ 0 → lw = []) ∧ (wtE wd hg g T Z (x, y) rise tick = 0 → ∀ L, Ord L T → wtL g wd L (x, y) rise (faO Z tick) = lw) := by
    by_cases hE : wtE wd hg g T Z (x, y) rise tick = 0
    · obtain ⟨_, hn, _, _, hk, _⟩ := ckE_ok (wtE_ok hE).1
      obtain ⟨L, hL⟩ := ord_exists hk
      refine ⟨wtL g wd L (x, y) rise (faO Z tick), ?_, fun h => absurd hE h, fun _ M hM => by rw [ord_unique hM hL]⟩
      unfold wtL
      rw [List.length_map]
      have h1 := List.length_filter_le (fun t => seB g wd t (x, y) rise (faO Z tick)) L
      have h2 := hL.1.length_eq
      omega
    · exact ⟨[], by simp, fun _ => rfl, fun h => absurd h hE⟩
  obtain ⟨lw, hlwl, hlw0, hlw1⟩ := hlw
  have H5 := Lib.hid (fun w' (h : Below w.heap.size w w') => (Watchers_any wd hg o tv hz g T Z x y rise tick w' (ho.keep h) hl (ht.keep h) htl (hh.keep h) hhl).mono fun e w'' ⟨v, he, hb, h1, h2⟩ => (by
    refine ⟨v, he, hb, ?_⟩
    by_cases hE : wtE wd hg g T Z (x, y) rise tick = 0
    · obtain ⟨L, hL, hown⟩ := h2 hE
      rw [hlw1 hE L hL] at hown
      exact INRow.of_own hown
    · rw [h1 hE, hlw0 hE]; exact .inl ⟨_, _, rfl, rfl⟩ : ∃ v, e = Ending.returned (.tuple #[v, .int .i64 (wtE wd hg g T Z (x, y) rise tick)]) ∧ Below w'.heap.size w' w'' ∧ INRow w'' v lw))
  have H6 := Lib.hid (fun w' (h : Below w.heap.size w w') => (rWatchers_any wd hg o tv hz g T Z x y rise tick w' (ho.keep h) hl (ht.keep h) htl (hh.keep h) hhl).mono fun e w'' ⟨va, n, c, he, hb, h1, h2⟩ => (by
    refine ⟨va, n, c, he, hb, ?_⟩
    by_cases hE : wtE wd hg g T Z (x, y) rise tick = 0
    · obtain ⟨out, hown, hperm, hsort⟩ := h2 hE
      obtain ⟨_, hn, _, _, hk, _⟩ := ckE_ok (wtE_ok hE).1
      obtain ⟨L, hL⟩ := ord_exists hk
      rw [rise_wt hperm hsort hL hk, hlw1 hE L hL] at hown
      exact INRow.of_own hown
    · rw [h1 hE, hlw0 hE]; exact .inl ⟨_, _, rfl, rfl⟩ : ∃ va n c, e = Ending.returned (.agg #[.slice va n c, .int .i64 (wtE wd hg g T Z (x, y) rise tick)]) ∧ Below w'.heap.size w' w'' ∧ INRow w'' (.slice va n c) lw))
  obtain ⟨lc, hlc⟩ : ∃ l, (if cwE wd hg g T Z rise tick tw = 0 then cvT tw g wd T rise (faO Z tick) g.length else []) = l := ⟨_, rfl⟩
  have hlcl : lc.length ≤ 1000000 := by
    rw [← hlc]
    by_cases hE : cwE wd hg g T Z rise tick tw = 0
    · rw [if_pos hE]
      have h1 := cvT_len tw g wd T rise (faO Z tick) g.length
      have hcv : cvE wd hg g T Z rise tick = 0 := by
        unfold cwE at hE; split at hE
        · assumption
        · exact hE
      obtain ⟨hm, _⟩ := ckE_ok (cvE_ok hcv).1
      obtain ⟨a1, a2, a3, a4, a5, _⟩ := vmB_ok hm
      have h1 : wd * hg ≤ 49 * 49 := Int.mul_le_mul a2 a4 (by omega) (by omega)
      omega
    · rw [if_neg hE]; simp
  have H7 := Lib.hid (fun w' (h : Below w.heap.size w w') => (Covered_all wd hg o tv hz g T Z rise tick tw w' (ho.keep h) hl (ht.keep h) htl (hh.keep h) hhl).mono fun e w'' ⟨v, he, hb, h1, h2⟩ => (by
    refine ⟨v, he, hb, ?_⟩
    rw [← hlc]
    by_cases hE : cwE wd hg g T Z rise tick tw = 0
    · rw [if_pos hE]; exact PlRow.of_own (h2 hE)
    · rw [if_neg hE, h1 hE]; exact .inl ⟨_, _, rfl, rfl⟩ : ∃ v, e = Ending.returned (.tuple #[v, .int .i64 (cwE wd hg g T Z rise tick tw)]) ∧ Below w'.heap.size w' w'' ∧ PlRow w'' v lc))
  have H8 := Lib.hid (fun w' (h : Below w.heap.size w w') => (rCovered_any wd hg o tv hz g T Z rise tick tw w' (ho.keep h) hl (ht.keep h) htl (hh.keep h) hhl).mono fun e w'' ⟨va, n, c, he, hb, h1, h2⟩ => (by
    refine ⟨va, n, c, he, hb, ?_⟩
    rw [← hlc]
    by_cases hE : cwE wd hg g T Z rise tick tw = 0
    · rw [if_pos hE]; exact PlRow.of_own (h2 hE)
    · rw [if_neg hE, h1 hE]; exact .inl ⟨_, _, rfl, rfl⟩ : ∃ va n c, e = Ending.returned (.agg #[.slice va n c, .int .i64 (cwE wd hg g T Z rise tick tw)]) ∧ Below w'.heap.size w' w'' ∧ PlRow w'' (.slice va n c) lc))
  have HIS := Lib.hid (fun (v1 v2 : Value) (l : List Int) (w' : World) h1 h2 hl => ints_same4 v1 v2 l w' h1 h2 hl)
  have HPS := Lib.hid (fun (v1 v2 : Value) (l : List Pl) (w' : World) h1 h2 hl => places_same4 v1 v2 l w' h1 h2 hl)
  have HLW := Lib.hid hlwl
  have HLC := Lib.hid hlcl
  obtain ⟨fb, hfb⟩ : ∃ b, fewB g.length T.length Z.length = b := ⟨_, rfl⟩
  rw [hfb] at HFW
  obtain ⟨E1, hE1⟩ : ∃ z, feE wd hg g T Z tick = z := ⟨_, rfl⟩
  obtain ⟨N1, hN1⟩ : ∃ z, feN wd hg g T Z tick = z := ⟨_, rfl⟩
  rw [hE1, hN1] at H1 H2
  obtain ⟨E3, hE3⟩ : ∃ z, wsE wd hg g T Z id (x, y) rise tick = z := ⟨_, rfl⟩
  obtain ⟨B3, hB3⟩ : ∃ z, wsB wd hg g T Z id (x, y) rise tick = z := ⟨_, rfl⟩
  rw [hE3, hB3] at H3 H4
  obtain ⟨E5, hE5⟩ : ∃ z, wtE wd hg g T Z (x, y) rise tick = z := ⟨_, rfl⟩
  rw [hE5] at H5 H6
  obtain ⟨E7, hE7⟩ : ∃ z, cwE wd hg g T Z rise tick tw = z := ⟨_, rfl⟩
  rw [hE7] at H7 H8
  obtain ⟨oa, oc, rfl, _⟩ := ho.form
  obtain ⟨ta, tc, rfl, _⟩ := ht.form
  obtain ⟨za, zc, rfl, _⟩ := hh.form
  have HA : Hid (∀ W', Below ((w.alloc (.cells #[.int .i64 wd, .int .i64 hg, .slice oa g.length oc, .slice ta T.length tc, .slice za Z.length zc] 28)).alloc (.cells #[.int .i64 x, .int .i64 y] 30)).heap.size ((w.alloc (.cells #[.int .i64 wd, .int .i64 hg, .slice oa g.length oc, .slice ta T.length tc, .slice za Z.length zc] 28)).alloc (.cells #[.int .i64 x, .int .i64 y] 30)) W' → W'.cell? ⟨w.heap.size, 0, none⟩ = some (.int .i64 wd) ∧ W'.cell? ⟨w.heap.size, 1, none⟩ = some (.int .i64 hg) ∧ W'.cell? ⟨w.heap.size, 2, none⟩ = some (.slice oa g.length oc) ∧ W'.cell? ⟨w.heap.size, 3, none⟩ = some (.slice ta T.length tc) ∧ W'.cell? ⟨w.heap.size, 4, none⟩ = some (.slice za Z.length zc) ∧ W'.cell? ⟨w.heap.size + 1, 0, none⟩ = some (.int .i64 x) ∧ W'.cell? ⟨w.heap.size + 1, 1, none⟩ = some (.int .i64 y) ∧ Below w.heap.size w W') := Lib.hid (fun W' h => by
    obtain ⟨a, b, _, d⟩ := two_cells w _ _ _ _ h
    exact ⟨cellH a 0, cellH a 1, cellH a 2, cellH a 3, cellH a 4, cellH b 0, cellH b 1, d⟩)
  obtain ⟨W1, hW1⟩ : ∃ X, (w.alloc (.cells #[.int .i64 wd, .int .i64 hg, .slice oa g.length oc, .slice ta T.length tc, .slice za Z.length zc] 28)).alloc (.cells #[.int .i64 x, .int .i64 y] 30) = X := ⟨_, rfl⟩
  rw [hW1] at HA
  have HW1 := Lib.hid hW1
  have HRD := HA
  have HB0 := Lib.hid (HA.out W1 (Below.refl _ _)).2.2.2.2.2.2.2
  clear hW1 HA ho ht hh hl htl hhl hlw0 hlw1 hlwl hlc hlcl hfb hE1 hN1 hE3 hB3 hE5 hE7
  unfold coV at HFW H1 H2 H3 H4 H5 H6 H7 H8
  unfold coV
  go_enter Tryz.func3, Tryz.ntmps3
  go_wp2_with fail
  rw [HW1.out]
  refine (head_any W1).mono ?_
  rintro e w2 ⟨rfl, hb⟩
  have HD2 := Lib.hid hb
  have HB2 := Lib.hid (HB0.out.trans (hb.mono HB0.out.size))
  clear hb
  obtain ⟨p0, p1, p2, p3, p4, p5, p6, _⟩ := HRD.out w2 HD2.out
  go_wp2_with fail
  refine (HFW.out _ HB2.out).mono ?_
  rintro e w3 ⟨rfl, hb⟩
  have HD3 := Lib.hid (HD2.out.trans (hb.mono HD2.out.size))
  have HB3 := Lib.hid (HB2.out.trans (hb.mono HB2.out.size))
  clear hb p0 p1 p2 p3 p4 p5 p6
  cases fb
  · go_wp2_with fail
    go_ret
    exact ⟨rfl, HB3.out⟩
  obtain ⟨p0, p1, p2, p3, p4, p5, p6, _⟩ := HRD.out _ HD3.out
  go_wp2_with fail
  refine (H1.out _ HB3.out).mono ?_
  rintro e w4 ⟨rfl, hb⟩
  have HD4 := Lib.hid (HD3.out.trans (hb.mono HD3.out.size))
  have HB4 := Lib.hid (HB3.out.trans (hb.mono HB3.out.size))
  clear hb p0 p1 p2 p3 p4 p5 p6
  obtain ⟨p0, p1, p2, p3, p4, p5, p6, _⟩ := HRD.out _ HD4.out
  go_wp2_with fail
  refine (H2.out _ HB4.out).mono ?_
  rintro e w5 ⟨rfl, hb⟩
  have HD5 := Lib.hid (HD4.out.trans (hb.mono HD4.out.size))
  have HB5 := Lib.hid (HB4.out.trans (hb.mono HB4.out.size))
  clear hb p0 p1 p2 p3 p4 p5 p6
  obtain ⟨p0, p1, p2, p3, p4, p5, p6, _⟩ := HRD.out _ HD5.out
  go_wp2_with fail
  refine (H3.out _ HB5.out).mono ?_
  rintro e w6 ⟨rfl, hb⟩
  have HD6 := Lib.hid (HD5.out.trans (hb.mono HD5.out.size))
  have HB6 := Lib.hid (HB5.out.trans (hb.mono HB5.out.size))
  clear hb p0 p1 p2 p3 p4 p5 p6
  obtain ⟨p0, p1, p2, p3, p4, p5, p6, _⟩ := HRD.out _ HD6.out
  go_wp2_with fail
  refine (H4.out _ HB6.out).mono ?_
  rintro e w7 ⟨rfl, hb⟩
  have HD7 := Lib.hid (HD6.out.trans (hb.mono HD6.out.size))
  have HB7 := Lib.hid (HB6.out.trans (hb.mono HB6.out.size))
  clear hb p0 p1 p2 p3 p4 p5 p6
  obtain ⟨p0, p1, p2, p3, p4, p5, p6, _⟩ := HRD.out _ HD7.out
  go_wp2_with fail
  refine (H5.out _ HB7.out).mono ?_
  rintro e w8 ⟨v8, rfl, hb, hr8⟩
  have HD8 := Lib.hid (HD7.out.trans (hb.mono HD7.out.size))
  have HB8 := Lib.hid (HB7.out.trans (hb.mono HB7.out.size))
  have HR8 := Lib.hid hr8
  obtain ⟨a8, c8, rfl, _⟩ := hr8.form
  clear hb hr8 p0 p1 p2 p3 p4 p5 p6
  obtain ⟨p0, p1, p2, p3, p4, p5, p6, _⟩ := HRD.out _ HD8.out
  go_wp2_with fail
  refine (H6.out _ HB8.out).mono ?_
  rintro e w9 ⟨a9, n9, c9, rfl, hb, hr9⟩
  have HD9 := Lib.hid (HD8.out.trans (hb.mono HD8.out.size))
  have HB9 := Lib.hid (HB8.out.trans (hb.mono HB8.out.size))
  have hY := (Below.refl _ w9).alloc (Nat.le_refl _) (.cells #[.slice a9 n9 c9, .int .i64 E5] 41)
  have HR9 := Lib.hid (hr9.keep hY)
  have HR8b := Lib.hid ((HR8.out.keep hb).keep hY)
  have HQ9 : Hid ((w9.alloc (.cells #[.slice a9 n9 c9, .int .i64 E5] 41)).heap[w9.heap.size]? = some (.cells #[.slice a9 n9 c9, .int .i64 E5] 41 (0, 0))) := Lib.hid (heap_alloc_new _ _)
  have HDY := Lib.hid (HD9.out.trans (hY.mono HD9.out.size))
  have HBY := Lib.hid (HB9.out.trans (hY.mono HB9.out.size))
  clear hY hr9 hb p0 p1 p2 p3 p4 p5 p6
  obtain ⟨p0, p1, p2, p3, p4, p5, p6, _⟩ := HRD.out _ HDY.out
  go_wp2_with fail
  obtain ⟨Y, hY⟩ : ∃ Y, w9.alloc (.cells #[.slice a9 n9 c9, .int .i64 E5] 41) = Y := ⟨_, rfl⟩
  rw [hY] at HR9 HR8b HQ9 HDY HBY ⊢
  obtain ⟨s9, hs9⟩ : ∃ s, w9.heap.size = s := ⟨_, rfl⟩
  rw [hs9] at HQ9 ⊢
  clear hY hs9 p0 p1 p2 p3 p4 p5 p6
  refine (H7.out _ HBY.out).mono ?_
  rintro e w10 ⟨v10, rfl, hb, hr10⟩
  have HD10 := Lib.hid (HDY.out.trans (hb.mono HDY.out.size))
  have HB10 := Lib.hid (HBY.out.trans (hb.mono HBY.out.size))
  have HR10 := Lib.hid hr10
  have HR9b := Lib.hid (HR9.out.keep hb)
  have HR8c := Lib.hid (HR8b.out.keep hb)
  have HQ9b := Lib.hid ((hb.block _ (Array.getElem?_eq_some_iff.1 HQ9.out).1).trans HQ9.out)
  obtain ⟨a10, c10, rfl, _⟩ := hr10.form
  clear hb hr10
  obtain ⟨p0, p1, p2, p3, p4, p5, p6, _⟩ := HRD.out _ HD10.out
  go_wp2_with fail
  refine (H8.out _ HB10.out).mono ?_
  rintro e w11 ⟨a11, n11, c11, rfl, hb, hr11⟩
  have HB11 := Lib.hid (HB10.out.trans (hb.mono HB10.out.size))
  have hY := (Below.refl _ w11).alloc (Nat.le_refl _) (.cells #[.slice a11 n11 c11, .int .i64 E7] 47)
  have HR11 := Lib.hid (hr11.keep hY)
  have HR10b := Lib.hid ((HR10.out.keep hb).keep hY)
  have HR9c := Lib.hid ((HR9b.out.keep hb).keep hY)
  have HR8d := Lib.hid ((HR8c.out.keep hb).keep hY)
  have hQ9 := (hb.block _ (Array.getElem?_eq_some_iff.1 HQ9b.out).1).trans HQ9b.out
  have HQ9c := Lib.hid ((hY.block _ (Array.getElem?_eq_some_iff.1 hQ9).1).trans hQ9)
  have HQ11 : Hid ((w11.alloc (.cells #[.slice a11 n11 c11, .int .i64 E7] 47)).heap[w11.heap.size]? = some (.cells #[.slice a11 n11 c11, .int .i64 E7] 47 (0, 0))) := Lib.hid (heap_alloc_new _ _)
  have HBZ := Lib.hid (HB11.out.trans (hY.mono HB11.out.size))
  have x0 := cellH HQ9c.out 0
  simp only [List.getElem?_toArray, List.getElem?_cons_zero, List.getElem?_cons_succ] at x0
  clear hY hr11 hb hQ9 p0 p1 p2 p3 p4 p5 p6
  go_wp2_with fail
  obtain ⟨Z2, hY⟩ : ∃ Y, w11.alloc (.cells #[.slice a11 n11 c11, .int .i64 E7] 47) = Y := ⟨_, rfl⟩
  rw [hY] at HR11 HR10b HR9c HR8d HQ9c HQ11 HBZ ⊢
  obtain ⟨s11, hs11⟩ : ∃ s, w11.heap.size = s := ⟨_, rfl⟩
  rw [hs11] at HQ11 ⊢
  clear hY hs11 x0
  refine (HIS.out _ _ lw _ HR8d.out HR9c.out HLW.out).mono ?_
  rintro e w12 ⟨rfl, hb⟩
  have HB12 := Lib.hid (HBZ.out.trans (hb.mono HBZ.out.size))
  have HR11b := Lib.hid (HR11.out.keep hb)
  have HR10c := Lib.hid (HR10b.out.keep hb)
  have HQ9d := Lib.hid ((hb.block _ (Array.getElem?_eq_some_iff.1 HQ9c.out).1).trans HQ9c.out)
  have HQ11b := Lib.hid ((hb.block _ (Array.getElem?_eq_some_iff.1 HQ11.out).1).trans HQ11.out)
  have x0 := cellH HQ11b.out 0
  simp only [List.getElem?_toArray, List.getElem?_cons_zero, List.getElem?_cons_succ] at x0
  clear hb
  go_wp2_with fail
  clear x0
  refine (HPS.out _ _ lc _ HR10c.out HR11b.out HLC.out).mono ?_
  rintro e w13 ⟨rfl, hb⟩
  have HB13 := Lib.hid (HB12.out.trans (hb.mono HB12.out.size))
  have hq9 := (hb.block _ (Array.getElem?_eq_some_iff.1 HQ9d.out).1).trans HQ9d.out
  have hq11 := (hb.block _ (Array.getElem?_eq_some_iff.1 HQ11b.out).1).trans HQ11b.out
  have x1 := cellH hq9 1
  have y1 := cellH hq11 1
  simp only [List.getElem?_toArray, List.getElem?_cons_zero, List.getElem?_cons_succ] at x1 y1
  clear hb hq9 hq11
  go_wp2_with fail
  go_ret
  exact ⟨by simp, HB13.out⟩
end Go.Proofs.YtnacgogcbbpjmaaGreat
