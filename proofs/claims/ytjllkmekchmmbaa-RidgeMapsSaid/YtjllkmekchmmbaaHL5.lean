/- RidgeMaps: Check, On, Ground and Raise answer as the reference does. -/
import Derived.Test.YtjllkmekchmmbaaHC3
import Derived.Test.YtjllkmekchmmbaaHL2
import Derived.Test.YtjllkmekchmmbaaHL3
import Derived.Test.YtjllkmekchmmbaaHL4
set_option linter.unusedVariables false
set_option linter.unusedSimpArgs false
namespace Go.Proofs.Ytjllkmekchmmbaa
open Go Go.RowKit

theorem gr_form (wd hg : Int) (g : List Int) (p : Pl) : ∃ a b : Int, grO wd hg g p = .tuple #[.int .i64 a, .int .i64 b] := by
  unfold grO; split <;> exact ⟨_, _, rfl⟩
/-- What Raise returns, in one form. -/
theorem ra_form {wd hg : Int} {g : List Int} {p : Pl} {h : Int} {w w' : World} {e : Ending} (H : RaOut wd hg g p h w e w') :
    ∃ oa oc, e = .returned (.tuple #[.agg #[.int .i64 (if raB wd hg g p h = true then wd else 0), .int .i64 (if raB wd hg g p h = true then hg else 0), .slice oa (if raB wd hg g p h = true then g.set (ixN wd p) h else []).length oc], .int .i64 (if raB wd hg g p h = true then 0 else 1)]) ∧ INRow w' (.slice oa (if raB wd hg g p h = true then g.set (ixN wd p) h else []).length oc) (if raB wd hg g p h = true then g.set (ixN wd p) h else []) ∧ Below w.heap.size w w' := by
  obtain ⟨hb, h1, h2⟩ := H
  cases q : raB wd hg g p h
  · have h3 := h1 q
    simp only [Bool.false_eq_true, if_false]
    exact ⟨none, 0, h3, .inl ⟨_, _, rfl, rfl⟩, hb⟩
  · obtain ⟨o', h3, h4⟩ := h2 q
    simp only [if_true]
    obtain ⟨a, c, rfl, _⟩ := h4.form
    exact ⟨a, c, h3, h4, hb⟩
theorem ra_len {wd hg : Int} {g : List Int} {p : Pl} {h : Int} : (if raB wd hg g p h = true then g.set (ixN wd p) h else []).length ≤ 1000000 := by
  split
  · rename_i q
    unfold raB at q
    simp only [Bool.and_eq_true] at q
    rw [List.length_set]
    have := (on_idx q.1.1 q.1.2).2.2.2
    omega
  · simp
set_option maxRecDepth 100000 in
set_option maxHeartbeats 8000000 in
theorem maps_card (wd hg : Int) (o tv hz : Value) (g : List Int) (T : List Tw) (Z : List Hz) (a1 a2 h : Int) (w : World) (ho : INRow w o g) (hl : g.length ≤ 9223372036854775807) (ht : TwRow w tv T) (htl : T.length ≤ 9223372036854775807) (hh : HzRow w hz Z) (hhl : Z.length ≤ 9223372036854775807) (_ : -9223372036854775808 ≤ h ∧ h ≤ 9223372036854775807) :
    Calls Try.prog 3 #[coV wd hg o tv hz, .agg #[.int .i64 a1, .int .i64 a2], .int .i64 h] w fun e w' => e = .returned (.bool true) ∧ Below w.heap.size w w' := by
  have HFW := Lib.hid (fun w' (h : Below w.heap.size w w') => few_any wd hg o tv hz g T Z w' (ho.keep h) (ht.keep h) (hh.keep h))
  have HG1 := Lib.hid (fun w' (h : Below w.heap.size w w') => Ground_any wd hg o g (a1, a2) w' (ho.keep h) hl)
  have HG2 := Lib.hid (fun w' (h : Below w.heap.size w w') => rGround_any wd hg o g (a1, a2) w' (ho.keep h) hl)
  have HR1 := Lib.hid (fun w' (h' : Below w.heap.size w w') => (Raise_any wd hg o g (a1, a2) h w' (ho.keep h') hl).mono fun e w'' k => ra_form k)
  have HR2 := Lib.hid (fun w' (h' : Below w.heap.size w w') => (rRaise_any wd hg o g (a1, a2) h w' (ho.keep h') hl).mono fun e w'' k => ra_form k)
  have HK1 := Lib.hid (fun w' (h : Below w.heap.size w w') => Check_any wd hg o tv hz g T Z w' (ho.keep h) hl (ht.keep h) htl (hh.keep h) hhl)
  have HK2 := Lib.hid (fun w' (h : Below w.heap.size w w') => rCheck_any wd hg o tv hz g T Z w' (ho.keep h) hl (ht.keep h) htl (hh.keep h) hhl)
  have HO1 := Lib.hid (fun w' => On_any wd hg o (a1, a2) w')
  have HO2 := Lib.hid (fun w' => rOn_any wd hg o (a1, a2) w')
  have HLEN : Hid ((if raB wd hg g (a1, a2) h = true then g.set (ixN wd (a1, a2)) h else []).length ≤ 1000000) := Lib.hid ra_len
  have HMS := Lib.hid (fun (x y : Int) (o1 o2 : Value) (l : List Int) (w' : World) (h1 : INRow w' o1 l) (h2 : INRow w' o2 l) hl => maps_same x y o1 o2 l w' h1 h2 hl)
  obtain ⟨ga, ge, hge⟩ := gr_form wd hg g (a1, a2)
  rw [hge] at HG1 HG2
  obtain ⟨rw', hrw⟩ : ∃ x, (if raB wd hg g (a1, a2) h = true then wd else 0) = x := ⟨_, rfl⟩
  obtain ⟨rh, hrh⟩ : ∃ x, (if raB wd hg g (a1, a2) h = true then hg else 0) = x := ⟨_, rfl⟩
  obtain ⟨re, hre⟩ : ∃ x, (if raB wd hg g (a1, a2) h = true then (0 : Int) else 1) = x := ⟨_, rfl⟩
  obtain ⟨rg, hrg⟩ : ∃ x, (if raB wd hg g (a1, a2) h = true then g.set (ixN wd (a1, a2)) h else []) = x := ⟨_, rfl⟩
  rw [hrw, hrh, hre, hrg] at HR1 HR2
  rw [hrg] at HLEN
  obtain ⟨ck, hck⟩ : ∃ x, ckE wd hg g T Z = x := ⟨_, rfl⟩
  rw [hck] at HK1 HK2
  obtain ⟨ob, hob⟩ : ∃ x, onB wd hg (a1, a2) = x := ⟨_, rfl⟩
  rw [hob] at HO1 HO2
  obtain ⟨fb, hfb⟩ : ∃ x, fewB g.length T.length Z.length = x := ⟨_, rfl⟩
  rw [hfb] at HFW
  obtain ⟨oa, oc, hof, _⟩ := ho.form
  obtain ⟨W1, hW1, hb0, hs1, hrd⟩ := co_reads w wd hg o tv hz
  have HPB : Hid (∀ W', Below (W1.alloc (.cells #[.int .i64 a1, .int .i64 a2] 30)).heap.size (W1.alloc (.cells #[.int .i64 a1, .int .i64 a2] 30)) W' → W'.cell? ⟨w.heap.size, 0, none⟩ = some (.int .i64 wd) ∧ W'.cell? ⟨w.heap.size, 1, none⟩ = some (.int .i64 hg) ∧ W'.cell? ⟨w.heap.size, 2, none⟩ = some o ∧ W'.cell? ⟨w.heap.size, 3, none⟩ = some tv ∧ W'.cell? ⟨w.heap.size, 4, none⟩ = some hz ∧ W'.cell? ⟨w.heap.size + 1, 0, none⟩ = some (.int .i64 a1) ∧ W'.cell? ⟨w.heap.size + 1, 1, none⟩ = some (.int .i64 a2)) := Lib.hid (fun W' h' => by
    have hA := (Below.refl _ W1).alloc (Nat.le_refl _) (.cells #[.int .i64 a1, .int .i64 a2] 30)
    obtain ⟨z0, z1, z2, z3, z4⟩ := hrd W' (hA.trans (h'.mono hA.size))
    have m1 := (h'.block (w.heap.size + 1) (by simp; omega)).trans (gAt W1 (.cells #[.int .i64 a1, .int .i64 a2] 30) _ (by omega))
    exact ⟨z0, z1, z2, z3, z4, cellH m1 0, cellH m1 1⟩)
  have HB0 : Hid (Below w.heap.size w (W1.alloc (.cells #[.int .i64 a1, .int .i64 a2] 30))) := Lib.hid (hb0.alloc hb0.size _)
  obtain ⟨W2, hW2⟩ : ∃ X, W1.alloc (.cells #[.int .i64 a1, .int .i64 a2] 30) = X := ⟨_, rfl⟩
  rw [hW2] at HPB HB0
  have HW2 : Hid ((w.alloc (.cells #[.int .i64 wd, .int .i64 hg, o, tv, hz] 28)).alloc (.cells #[.int .i64 a1, .int .i64 a2] 30) = W2) := Lib.hid (by rw [← hW1]; exact hW2)
  clear hW1 hW2 hb0 hs1 hrd ho ht hh hl htl hhl hge hrw hrh hre hrg hck hob hfb hof
  unfold coV at HFW HK1 HK2
  unfold mpV plV at HG1 HG2 HO1 HO2
  unfold mpV at HMS
  unfold coV
  simp only at HG1 HG2 HO1 HO2
  go_enter Try.func3, Try.ntmps3
  go_wp2_with fail
  rw [HW2.out]
  refine (head_any W2).mono ?_
  rintro e w3 ⟨rfl, hb⟩
  have HD3 := Lib.hid hb
  have HB3 := Lib.hid (HB0.out.trans (hb.mono HB0.out.size))
  clear hb
  obtain ⟨p0, p1, p2, p3, p4, p5, p6⟩ := HPB.out w3 HD3.out
  go_wp2_with fail
  refine (HFW.out _ HB3.out).mono ?_
  rintro e w4 ⟨rfl, hb⟩
  have HD4 := Lib.hid (HD3.out.trans (hb.mono HD3.out.size))
  have HB4 := Lib.hid (HB3.out.trans (hb.mono HB3.out.size))
  clear hb p0 p1 p2 p3 p4 p5 p6
  cases fb
  · go_wp2_with fail
    go_ret
    exact ⟨rfl, HB4.out⟩
  obtain ⟨p0, p1, p2, p3, p4, p5, p6⟩ := HPB.out w4 HD4.out
  go_wp2_with fail
  refine (HG1.out _ HB4.out).mono ?_
  rintro e w5 ⟨rfl, hb⟩
  have HD5 := Lib.hid (HD4.out.trans (hb.mono HD4.out.size))
  have HB5 := Lib.hid (HB4.out.trans (hb.mono HB4.out.size))
  clear hb p0 p1 p2 p3 p4 p5 p6
  obtain ⟨p0, p1, p2, p3, p4, p5, p6⟩ := HPB.out w5 HD5.out
  go_wp2_with fail
  refine (HG2.out _ HB5.out).mono ?_
  rintro e w6 ⟨rfl, hb⟩
  have HD6 := Lib.hid (HD5.out.trans (hb.mono HD5.out.size))
  have HB6 := Lib.hid (HB5.out.trans (hb.mono HB5.out.size))
  clear hb p0 p1 p2 p3 p4 p5 p6
  obtain ⟨p0, p1, p2, p3, p4, p5, p6⟩ := HPB.out w6 HD6.out
  go_wp2_with fail
  refine (HR1.out _ HB6.out).mono ?_
  rintro e w7 ⟨oa, oc, rfl, hr1, hb⟩
  have HD7 := Lib.hid (HD6.out.trans (hb.mono HD6.out.size))
  have HB7 := Lib.hid (HB6.out.trans (hb.mono HB6.out.size))
  clear hb p0 p1 p2 p3 p4 p5 p6
  have hY := (Below.refl _ w7).alloc (Nat.le_refl _) (.cells #[.int .i64 rw', .int .i64 rh, .slice oa rg.length oc] 24)
  have HR7 := Lib.hid (hr1.keep hY)
  have HQ7 : Hid ((w7.alloc (.cells #[.int .i64 rw', .int .i64 rh, .slice oa rg.length oc] 24)).heap[w7.heap.size]? = some (.cells #[.int .i64 rw', .int .i64 rh, .slice oa rg.length oc] 24 (0, 0))) := Lib.hid (heap_alloc_new _ _)
  have HDY := Lib.hid (HD7.out.trans (hY.mono HD7.out.size))
  have HBY := Lib.hid (HB7.out.trans (hY.mono HB7.out.size))
  clear hY hr1
  obtain ⟨p0, p1, p2, p3, p4, p5, p6⟩ := HPB.out _ HDY.out
  go_wp2_with fail
  obtain ⟨Y, hY⟩ : ∃ Y, w7.alloc (.cells #[.int .i64 rw', .int .i64 rh, .slice oa rg.length oc] 24) = Y := ⟨_, rfl⟩
  rw [hY] at HR7 HQ7 HDY HBY ⊢
  clear hY p0 p1 p2 p3 p4 p5 p6
  refine (HR2.out _ HBY.out).mono ?_
  rintro e w8 ⟨pa, pc, rfl, hr2, hb⟩
  have HD8 := Lib.hid (HDY.out.trans (hb.mono HDY.out.size))
  have HB8 := Lib.hid (HBY.out.trans (hb.mono HBY.out.size))
  have hZ := (Below.refl _ w8).alloc (Nat.le_refl _) (.cells #[.int .i64 rw', .int .i64 rh, .slice pa rg.length pc] 24)
  have HR8 := Lib.hid (hr2.keep hZ)
  have HR7b := Lib.hid ((HR7.out.keep hb).keep hZ)
  have hQ7 := (hb.block _ (Array.getElem?_eq_some_iff.1 HQ7.out).1).trans HQ7.out
  have HQ7b := Lib.hid ((hZ.block _ (Array.getElem?_eq_some_iff.1 hQ7).1).trans hQ7)
  have HQ8 : Hid ((w8.alloc (.cells #[.int .i64 rw', .int .i64 rh, .slice pa rg.length pc] 24)).heap[w8.heap.size]? = some (.cells #[.int .i64 rw', .int .i64 rh, .slice pa rg.length pc] 24 (0, 0))) := Lib.hid (heap_alloc_new _ _)
  have HDZ := Lib.hid (HD8.out.trans (hZ.mono HD8.out.size))
  have HBZ := Lib.hid (HB8.out.trans (hZ.mono HB8.out.size))
  have hc0 := cellH HQ7b.out 0
  have hc1 := cellH HQ7b.out 1
  have hc2 := cellH HQ7b.out 2
  have hd0 := cellH HQ8.out 0
  have hd1 := cellH HQ8.out 1
  have hd2 := cellH HQ8.out 2
  simp only [List.getElem?_toArray, List.getElem?_cons_zero, List.getElem?_cons_succ] at hc0 hc1 hc2 hd0 hd1 hd2
  clear hZ hr2 hb hQ7
  go_wp2_with fail
  obtain ⟨Y2, hY2⟩ : ∃ Y, w8.alloc (.cells #[.int .i64 rw', .int .i64 rh, .slice pa rg.length pc] 24) = Y := ⟨_, rfl⟩
  rw [hY2] at HR8 HR7b HDZ HBZ ⊢
  clear hY2 hc0 hc1 hc2 hd0 hd1 hd2
  refine (HMS.out rw' rh _ _ rg _ HR7b.out HR8.out HLEN.out).mono ?_
  rintro e w9 ⟨rfl, hb⟩
  have HD9 := Lib.hid (HDZ.out.trans (hb.mono HDZ.out.size))
  have HB9 := Lib.hid (HBZ.out.trans (hb.mono HBZ.out.size))
  clear hb
  go_wp2_with fail
  have CK1 : Hid (∀ w', Below w9.heap.size w9 w' → Calls Try.prog 17 #[.agg #[.int .i64 wd, .int .i64 hg, o, tv, hz]] w' fun e w'' => e = .returned (.int .i64 ck) ∧ Below w9.heap.size w9 w'') := Lib.hid (fun w' h => (HK1.out w' (HB9.out.trans (h.mono HB9.out.size))).mono fun e w'' ⟨he, hh⟩ => ⟨he, h.trans (hh.mono h.size)⟩)
  have CK2 : Hid (∀ w', Below w9.heap.size w9 w' → Calls Try.prog 18 #[.agg #[.int .i64 wd, .int .i64 hg, o, tv, hz]] w' fun e w'' => e = .returned (.int .i64 ck) ∧ Below w9.heap.size w9 w'') := Lib.hid (fun w' h => (HK2.out w' (HB9.out.trans (h.mono HB9.out.size))).mono fun e w'' ⟨he, hh⟩ => ⟨he, h.trans (hh.mono h.size)⟩)
  have CO1 : Hid (∀ w', Below w9.heap.size w9 w' → Calls Try.prog 19 #[.agg #[.int .i64 wd, .int .i64 hg, o], .agg #[.int .i64 a1, .int .i64 a2]] w' fun e w'' => e = .returned (.bool ob) ∧ Below w9.heap.size w9 w'') := Lib.hid (fun w' h => (HO1.out w').mono fun e w'' ⟨he, hh⟩ => ⟨he, h.trans (hh.mono h.size)⟩)
  have CO2 : Hid (∀ w', Below w9.heap.size w9 w' → Calls Try.prog 20 #[.agg #[.int .i64 wd, .int .i64 hg, o], .agg #[.int .i64 a1, .int .i64 a2]] w' fun e w'' => e = .returned (.bool ob) ∧ Below w9.heap.size w9 w'') := Lib.hid (fun w' h => (HO2.out w').mono fun e w'' ⟨he, hh⟩ => ⟨he, h.trans (hh.mono h.size)⟩)
  have KA : Hid (∀ W', Below w9.heap.size w9 W' → W'.cell? ⟨w.heap.size, 0, none⟩ = some (.int .i64 wd) ∧ W'.cell? ⟨w.heap.size, 1, none⟩ = some (.int .i64 hg) ∧ W'.cell? ⟨w.heap.size, 2, none⟩ = some o ∧ W'.cell? ⟨w.heap.size, 3, none⟩ = some tv ∧ W'.cell? ⟨w.heap.size, 4, none⟩ = some hz ∧ W'.cell? ⟨w.heap.size + 1, 0, none⟩ = some (.int .i64 a1) ∧ W'.cell? ⟨w.heap.size + 1, 1, none⟩ = some (.int .i64 a2)) := Lib.hid (fun W' h => HPB.out W' (HD9.out.trans (h.mono HD9.out.size)))
  refine wp_region_turn 37 (fun _ w' => Below w9.heap.size w9 w') (by kernel_rfl) (by kernel_rfl) ((Below.refl _ w9).drew) ?_
  simp only [List.take_succ_cons, List.take_zero, List.drop_succ_cons, List.drop_zero]
  iterate 37
    (first
      | (apply turnC_step (by rfl); (intro w' hw'; go_simp; first | exact CK1.out w' hw' | exact CK2.out w' hw' | exact CO1.out w' hw' | exact CO2.out w' hw'))
      | (apply turnC_step (by rfl); (intro w' hw'; obtain ⟨q0, q1, q2, q3, q4, q5, q6⟩ := KA.out w' hw'; go_simp; first | exact ⟨hw', rfl⟩ | exact rfl)))
    simp only [Act.put, List.setIfInBounds_toArray, List.set_cons_succ, List.set_cons_zero]
  intro listed w10 _ hw10
  have HBF := Lib.hid (HB9.out.trans (hw10.mono HB9.out.size))
  clear hw10
  go_wp2_with fail
  go_ret
  exact ⟨rfl, HBF.out⟩
end Go.Proofs.Ytjllkmekchmmbaa
