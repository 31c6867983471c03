/- RidgeSeen: Seen and Dead answer as the reference does. -/
import Derived.Test.YtjllkmekchmmbaaHC3
import Derived.Test.YtjllkmekchmmbaaHL3
import Derived.Test.YtjllkmekchmmbaaHM3
import Derived.Test.YtjllkmekchmmbaaHM5
set_option linter.unusedVariables false
set_option linter.unusedSimpArgs false
namespace Go.Proofs.Ytjllkmekchmmbaa
open Go Go.RowKit

set_option maxRecDepth 100000 in
set_option maxHeartbeats 2000000 in
/-- Two lists of places that read alike are equal. -/
theorem places_same (v1 v2 : Value) (l : List Pl) (w : World) (h1 : PlRow w v1 l) (h2 : PlRow w v2 l) (hl : l.length ≤ 1000000) :
    Calls Try.prog 25 #[v1, v2] w fun e w' => e = .returned (.bool true) ∧ Below w.heap.size w w' := by
  obtain ⟨oa, ocap, rfl, hc1⟩ := h1.form
  obtain ⟨pa, pcap, rfl, hc2⟩ := h2.form
  have HC1 := Lib.hid hc1
  have HC2 := Lib.hid hc2
  clear hc1 hc2 h1 h2
  go_enter Try.func25, Try.ntmps25
  go_wp2_with fail
  go_loopw [5] (fun i wr => ∃ (k : Nat), k ≤ l.length ∧ i = .int .i64 k ∧ Hid (Below w.heap.size w wr)) (fun i _ => l.length - (intOf i).toNat)
  case atStart => exact ⟨0, Nat.zero_le _, rfl, Lib.hid (Below.refl _ _)⟩
  case round =>
    obtain ⟨k, hk, rfl, hB⟩ := hrel
    by_cases hkl : k < l.length
    · obtain ⟨b, off, rfl, _, hb, c0, c1⟩ := HC1.out k hkl
      obtain ⟨b', off', rfl, _, hb', d0, d1⟩ := HC2.out k hkl
      have hki : (k : Int) < l.length := by omega
      have hk0 : (0 : Int) ≤ k := by omega
      have e0 := (hB.out.cell (p := ⟨b, _, none⟩) hb).trans c0
      have e1 := (hB.out.cell (p := ⟨b, _, none⟩) hb).trans c1
      have f0 := (hB.out.cell (p := ⟨b', _, none⟩) hb').trans d0
      have f1 := (hB.out.cell (p := ⟨b', _, none⟩) hb').trans d1
      obtain ⟨⟨x, y⟩, hx⟩ : ∃ x, l.getD k (0, 0) = x := ⟨_, rfl⟩
      rw [hx] at e0 e1 f0 f1
      simp only at e0 e1 f0 f1
      clear hx c0 c1 d0 d1 hb hb'
      go_wp2_with fail
      go_quiet (fail)
      go_wp2_with fail
      go_roundw
      case rel => exact ⟨k + 1, by omega, by go_num, Lib.hid (below_drewN hB.out _)⟩
      case measure => simp [intOf]; omega
    · obtain rfl : k = l.length := by omega
      go_wp2_with fail
      go_ret
      exact ⟨rfl, hB.out⟩
/-- What Seen returns, as a row. -/
theorem see_row {w w' : World} {v : Value} {E : Int} {l : List Pl} (h1 : E ≠ 0 → v = .slice none 0 0) (h2 : E = 0 → w'.ownsRow w.heap.size 30 2 v l.length (l.flatMap encP)) : PlRow w' v (if E = 0 then l else []) := by
  by_cases h : E = 0
  · rw [if_pos h]; exact PlRow.of_own (h2 h)
  · rw [if_neg h, h1 h]; exact .inl ⟨_, _, rfl, rfl⟩
set_option maxRecDepth 100000 in
set_option maxHeartbeats 8000000 in
theorem seen_card (wd hg : Int) (o tv hz : Value) (g : List Int) (T : List Tw) (Z : List Hz) (id rise : Int) (w : World) (ho : INRow w o g) (hl : g.length ≤ 9223372036854775807) (ht : TwRow w tv T) (htl : T.length ≤ 9223372036854775807) (hh : HzRow w hz Z) (hhl : Z.length ≤ 9223372036854775807) (_ : -9223372036854775808 ≤ id ∧ id ≤ 9223372036854775807) (_ : -9223372036854775808 ≤ rise ∧ rise ≤ 9223372036854775807) :
    Calls Try.prog 4 #[coV wd hg o tv hz, .int .i64 id, .int .i64 rise] w fun e w' => e = .returned (.bool true) ∧ Below w.heap.size w w' := by
  have HFW := Lib.hid (fun w' (h : Below w.heap.size w w') => few_any wd hg o tv hz g T Z w' (ho.keep h) (ht.keep h) (hh.keep h))
  obtain ⟨E, hE⟩ : ∃ x, seE wd hg g T Z id rise = x := ⟨_, rfl⟩
  obtain ⟨l1, hl1⟩ : ∃ l, (if E = 0 then seL wd g (ctT wd hg g T Z id) rise true g.length else []) = l := ⟨_, rfl⟩
  obtain ⟨l2, hl2⟩ : ∃ l, (if E = 0 then seL wd g (ctT wd hg g T Z id) rise false g.length else []) = l := ⟨_, rfl⟩
  have HLEN : Hid (l1.length ≤ 1000000 ∧ l2.length ≤ 1000000) := Lib.hid (by
    rw [← hl1, ← hl2]
    by_cases h : E = 0
    · rw [if_pos h, if_pos h]
      have h1 := seL_len wd g (ctT wd hg g T Z id) rise true g.length
      have h2 := seL_len wd g (ctT wd hg g T Z id) rise false g.length
      have h3 : g.length ≤ 2401 := by
        obtain ⟨hck, _⟩ := ct_get (hE.trans h)
        obtain ⟨hm, _⟩ := ckE_ok hck
        obtain ⟨a1, a2, a3, a4, a5, _⟩ := vmB_ok hm
        have h1 : wd * hg ≤ 49 * 49 := Int.mul_le_mul a2 a4 (by omega) (by omega)
        omega
      omega
    · rw [if_neg h, if_neg h]; simp)
  have HS1 := Lib.hid (fun w' (h : Below w.heap.size w w') => (Seen_any wd hg o tv hz g T Z id rise w' (ho.keep h) hl (ht.keep h) htl (hh.keep h) hhl).mono fun e w'' ⟨v, he, hb, h1, h2⟩ => (by rw [hE] at he h1 h2; exact ⟨v, he, hb, by rw [← hl1]; exact see_row h1 h2⟩ : ∃ v, e = Ending.returned (.tuple #[v, .int .i64 E]) ∧ Below w'.heap.size w' w'' ∧ PlRow w'' v l1))
  have HS2 := Lib.hid (fun w' (h : Below w.heap.size w w') => (Dead_any wd hg o tv hz g T Z id rise w' (ho.keep h) hl (ht.keep h) htl (hh.keep h) hhl).mono fun e w'' ⟨v, he, hb, h1, h2⟩ => (by rw [hE] at he h1 h2; exact ⟨v, he, hb, by rw [← hl2]; exact see_row h1 h2⟩ : ∃ v, e = Ending.returned (.tuple #[v, .int .i64 E]) ∧ Below w'.heap.size w' w'' ∧ PlRow w'' v l2))
  have HS3 := Lib.hid (fun w' (h : Below w.heap.size w w') => (rSeen_any wd hg o tv hz g T Z id rise w' (ho.keep h) hl (ht.keep h) htl (hh.keep h) hhl).mono fun e w'' ⟨va, n, c, he, hb, h1, h2⟩ => (by rw [hE] at he h1 h2; exact ⟨va, n, c, he, hb, by rw [← hl1]; exact see_row h1 h2⟩ : ∃ va n c, e = Ending.returned (.agg #[.slice va n c, .int .i64 E]) ∧ Below w'.heap.size w' w'' ∧ PlRow w'' (.slice va n c) l1))
  have HS4 := Lib.hid (fun w' (h : Below w.heap.size w w') => (rDead_any wd hg o tv hz g T Z id rise w' (ho.keep h) hl (ht.keep h) htl (hh.keep h) hhl).mono fun e w'' ⟨va, n, c, he, hb, h1, h2⟩ => (by rw [hE] at he h1 h2; exact ⟨va, n, c, he, hb, by rw [← hl2]; exact see_row h1 h2⟩ : ∃ va n c, e = Ending.returned (.agg #[.slice va n c, .int .i64 E]) ∧ Below w'.heap.size w' w'' ∧ PlRow w'' (.slice va n c) l2))
  have HPS := Lib.hid (fun (v1 v2 : Value) (l : List Pl) (w' : World) h1 h2 hl => places_same v1 v2 l w' h1 h2 hl)
  obtain ⟨fb, hfb⟩ : ∃ x, fewB g.length T.length Z.length = x := ⟨_, rfl⟩
  rw [hfb] at HFW
  obtain ⟨W1, hW1, hb0, hs1, hrd⟩ := co_reads w wd hg o tv hz
  have HW1 := Lib.hid hW1; have HB0 := Lib.hid hb0; have HRD := Lib.hid hrd
  obtain ⟨oa, oc, hof, _⟩ := ho.form
  clear hW1 hb0 hs1 hrd ho ht hh hl htl hhl hE hl1 hl2 hfb hof
  unfold coV at HFW HS1 HS2 HS3 HS4
  unfold coV
  go_enter Try.func4, Try.ntmps4
  go_wp2_with fail
  rw [← HW1.out]
  refine (head_any W1).mono ?_
  rintro e w2 ⟨rfl, hb⟩
  have HD2 := Lib.hid hb
  have HB2 := Lib.hid (HB0.out.trans (hb.mono HB0.out.size))
  clear hb
  obtain ⟨p0, p1, p2, p3, p4⟩ := HRD.out w2 HD2.out
  go_wp2_with fail
  refine (HFW.out _ HB2.out).mono ?_
  rintro e w3 ⟨rfl, hb⟩
  have HD3 := Lib.hid (HD2.out.trans (hb.mono HD2.out.size))
  have HB3 := Lib.hid (HB2.out.trans (hb.mono HB2.out.size))
  clear hb p0 p1 p2 p3 p4
  cases fb
  · go_wp2_with fail
    go_ret
    exact ⟨rfl, HB3.out⟩
  obtain ⟨p0, p1, p2, p3, p4⟩ := HRD.out _ HD3.out
  go_wp2_with fail
  refine (HS1.out _ HB3.out).mono ?_
  rintro e w4 ⟨v4, rfl, hb, hr4⟩
  have HD4 := Lib.hid (HD3.out.trans (hb.mono HD3.out.size))
  have HB4 := Lib.hid (HB3.out.trans (hb.mono HB3.out.size))
  have HR4 := Lib.hid hr4
  obtain ⟨a4, c4, rfl, _⟩ := hr4.form
  clear hb hr4 p0 p1 p2 p3 p4
  obtain ⟨p0, p1, p2, p3, p4⟩ := HRD.out _ HD4.out
  go_wp2_with fail
  refine (HS3.out _ HB4.out).mono ?_
  rintro e w5 ⟨a5, n5, c5, rfl, hb, hr5⟩
  have HD5 := Lib.hid (HD4.out.trans (hb.mono HD4.out.size))
  have HB5 := Lib.hid (HB4.out.trans (hb.mono HB4.out.size))
  have hY := (Below.refl _ w5).alloc (Nat.le_refl _) (.cells #[.slice a5 n5 c5, .int .i64 E] 46)
  have HR5 := Lib.hid (hr5.keep hY)
  have HR4b := Lib.hid ((HR4.out.keep hb).keep hY)
  have HQ5 : Hid ((w5.alloc (.cells #[.slice a5 n5 c5, .int .i64 E] 46)).heap[w5.heap.size]? = some (.cells #[.slice a5 n5 c5, .int .i64 E] 46 (0, 0))) := Lib.hid (heap_alloc_new _ _)
  have HDY := Lib.hid (HD5.out.trans (hY.mono HD5.out.size))
  have HBY := Lib.hid (HB5.out.trans (hY.mono HB5.out.size))
  clear hY hr5 hb p0 p1 p2 p3 p4
  obtain ⟨p0, p1, p2, p3, p4⟩ := HRD.out _ HDY.out
  go_wp2_with fail
  obtain ⟨Y, hY⟩ : ∃ Y, w5.alloc (.cells #[.slice a5 n5 c5, .int .i64 E] 46) = Y := ⟨_, rfl⟩
  rw [hY] at HR5 HR4b HQ5 HDY HBY ⊢
  clear hY p0 p1 p2 p3 p4
  refine (HS2.out _ HBY.out).mono ?_
  rintro e w6 ⟨v6, rfl, hb, hr6⟩
  have HD6 := Lib.hid (HDY.out.trans (hb.mono HDY.out.size))
  have HB6 := Lib.hid (HBY.out.trans (hb.mono HBY.out.size))
  have HR6 := Lib.hid hr6
  have HR5b := Lib.hid (HR5.out.keep hb)
  have HR4c := Lib.hid (HR4b.out.keep hb)
  have HQ5b := Lib.hid ((hb.block _ (Array.getElem?_eq_some_iff.1 HQ5.out).1).trans HQ5.out)
  obtain ⟨a6, c6, rfl, _⟩ := hr6.form
  clear hb hr6
  obtain ⟨p0, p1, p2, p3, p4⟩ := HRD.out _ HD6.out
  go_wp2_with fail
  refine (HS4.out _ HB6.out).mono ?_
  rintro e w7 ⟨a7, n7, c7, rfl, hb, hr7⟩
  have HD7 := Lib.hid (HD6.out.trans (hb.mono HD6.out.size))
  have HB7 := Lib.hid (HB6.out.trans (hb.mono HB6.out.size))
  have hY := (Below.refl _ w7).alloc (Nat.le_refl _) (.cells #[.slice a7 n7 c7, .int .i64 E] 46)
  have HR7 := Lib.hid (hr7.keep hY)
  have HR6b := Lib.hid ((HR6.out.keep hb).keep hY)
  have HR5c := Lib.hid ((HR5b.out.keep hb).keep hY)
  have HR4d := Lib.hid ((HR4c.out.keep hb).keep hY)
  have hQ5 := (hb.block _ (Array.getElem?_eq_some_iff.1 HQ5b.out).1).trans HQ5b.out
  have HQ5c := Lib.hid ((hY.block _ (Array.getElem?_eq_some_iff.1 hQ5).1).trans hQ5)
  have HQ7 : Hid ((w7.alloc (.cells #[.slice a7 n7 c7, .int .i64 E] 46)).heap[w7.heap.size]? = some (.cells #[.slice a7 n7 c7, .int .i64 E] 46 (0, 0))) := Lib.hid (heap_alloc_new _ _)
  have HDZ := Lib.hid (HD7.out.trans (hY.mono HD7.out.size))
  have HBZ := Lib.hid (HB7.out.trans (hY.mono HB7.out.size))
  have x0 := cellH HQ5c.out 0
  simp only [List.getElem?_toArray, List.getElem?_cons_zero, List.getElem?_cons_succ] at x0
  clear hY hr7 hb hQ5 p0 p1 p2 p3 p4
  go_wp2_with fail
  obtain ⟨Z2, hY⟩ : ∃ Y, w7.alloc (.cells #[.slice a7 n7 c7, .int .i64 E] 46) = Y := ⟨_, rfl⟩
  rw [hY] at HR7 HR6b HR5c HR4d HQ5c HQ7 HDZ HBZ ⊢
  clear hY x0
  refine (HPS.out _ _ l1 _ HR4d.out HR5c.out HLEN.out.1).mono ?_
  rintro e w8 ⟨rfl, hb⟩
  have HD8 := Lib.hid (HDZ.out.trans (hb.mono HDZ.out.size))
  have HB8 := Lib.hid (HBZ.out.trans (hb.mono HBZ.out.size))
  have HR7b := Lib.hid (HR7.out.keep hb)
  have HR6c := Lib.hid (HR6b.out.keep hb)
  have HQ5d := Lib.hid ((hb.block _ (Array.getElem?_eq_some_iff.1 HQ5c.out).1).trans HQ5c.out)
  have HQ7b := Lib.hid ((hb.block _ (Array.getElem?_eq_some_iff.1 HQ7.out).1).trans HQ7.out)
  have x0 := cellH HQ7b.out 0
  simp only [List.getElem?_toArray, List.getElem?_cons_zero, List.getElem?_cons_succ] at x0
  clear hb
  go_wp2_with fail
  clear x0
  refine (HPS.out _ _ l2 _ HR6c.out HR7b.out HLEN.out.2).mono ?_
  rintro e w9 ⟨rfl, hb⟩
  have HD9 := Lib.hid (HD8.out.trans (hb.mono HD8.out.size))
  have HB9 := Lib.hid (HB8.out.trans (hb.mono HB8.out.size))
  have hq5 := (hb.block _ (Array.getElem?_eq_some_iff.1 HQ5d.out).1).trans HQ5d.out
  have hq7 := (hb.block _ (Array.getElem?_eq_some_iff.1 HQ7b.out).1).trans HQ7b.out
  have x1 := cellH hq5 1
  have y1 := cellH hq7 1
  simp only [List.getElem?_toArray, List.getElem?_cons_zero, List.getElem?_cons_succ] at x1 y1
  clear hb hq5 hq7
  go_wp2_with fail
  go_ret
  exact ⟨by simp, HB9.out⟩
end Go.Proofs.Ytjllkmekchmmbaa
