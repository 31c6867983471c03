/- The reference's CheckBlock. -/
import Derived.Test.YtkipncjagiidoaaHF3
set_option linter.unusedVariables false
set_option linter.unusedSimpArgs false
namespace Go.Proofs.Ytkipncjagiidoaa
open Go Go.RowKit

theorem blk_iff {g : List Int} {wd : Int} {a b : Pl} {u v : Int} {i s : Nat} (hc : isC (dist a.1 b.1).toNat (dist a.2 b.2).toNat (i, s)) : ((i : Int), (s : Int)) ∈ blk g wd a b u v ↔ overB u v (mkM g wd a b (i, s)) = true := by
  unfold blk
  rw [List.mem_map]
  constructor
  · rintro ⟨x, hx, e⟩
    obtain ⟨h1, h2⟩ := List.mem_filter.1 hx
    obtain ⟨i', k', _, rfl⟩ := (mts_mem x).1 h1
    have e1 : (i' : Int) = i := congrArg Prod.fst e
    have e2 : (k' : Int) = s := congrArg Prod.snd e
    have f1 : i' = i := by omega
    have f2 : k' = s := by omega
    subst f1 f2
    exact h2
  · intro h
    exact ⟨_, List.mem_filter.2 ⟨(mts_mem _).2 ⟨i, s, hc, rfl⟩, h⟩, rfl⟩
theorem blk_has {g : List Int} {wd : Int} {a b : Pl} {u v : Int} {c : Int × Int} (h : c ∈ blk g wd a b u v) : ∃ i s : Nat, c = ((i : Int), (s : Int)) ∧ isC (dist a.1 b.1).toNat (dist a.2 b.2).toNat (i, s) := by
  obtain ⟨x, hx, rfl⟩ := List.mem_map.1 h
  obtain ⟨i, k, h1, rfl⟩ := (mts_mem x).1 (List.mem_filter.1 hx).1
  exact ⟨i, k, rfl, h1⟩
set_option maxRecDepth 100000 in
set_option maxHeartbeats 8000000 in
theorem rCheckBlock_any (wd hg : Int) (o : Value) (g : List Int) (a b : Pl) (up rise : Int) (c : Int × Int) (w : World) (hv : INRow w o g) (hl : g.length ≤ 9223372036854775807) :
    Calls Try.prog 32 #[mpV wd hg o, plV a, .int .i64 up, plV b, .int .i64 rise, .agg #[.int .i64 c.1, .int .i64 c.2]] w fun e w' => e = .returned (.int .i64 (cbE wd hg g a up b rise c)) ∧ Below w.heap.size w w' := by
  have HV := Lib.hid hv
  have HS := Lib.hid (fun w' (h : Below w.heap.size w w') => rsight_any wd hg o g a b up rise w' (hv.keep h) hl)
  obtain ⟨W1, hW1, hb0, hs1, hrd⟩ := four_readsC w c.1 c.2 wd hg o a b
  have HW1 := Lib.hid hW1; have HB0 := Lib.hid hb0; have HRD := Lib.hid hrd
  clear hW1 hb0 hrd hv
  have ead : w.heap.size + 1 + 1 = w.heap.size + 2 := rfl
  have ead2 : w.heap.size + 2 + 1 = w.heap.size + 3 := rfl
  unfold mpV plV at HS
  cases q1 : vlB wd hg g a b [up, rise]
  · have HN : Hid (lnE wd hg g a b [up, rise] = 1) := Lib.hid (by unfold lnE; rw [q1]; rfl)
    have HC : Hid (cbE wd hg g a up b rise c = 1) := Lib.hid (by unfold cbE; rw [q1]; rfl)
    rw [HN.out] at HS
    rw [HC.out]
    clear q1
    unfold mpV plV
    go_enter Try.func32, Try.ntmps32
    go_wp2_with fail
    rw [← HW1.out]
    refine (HS.out _ HB0.out).mono ?_
    rintro e w2 ⟨rfl, hb2⟩
    have HB2 := Lib.hid (HB0.out.trans (hb2.mono HB0.out.size))
    clear hb2
    go_wp2_with fail
    go_ret
    exact ⟨rfl, HB2.out⟩
  have HN : Hid (lnE wd hg g a b [up, rise] = 0) := Lib.hid (by unfold lnE; rw [q1]; rfl)
  have HCE : Hid (cbE wd hg g a up b rise c = if c ∈ blk g wd a b (hAt g wd a + up) (hAt g wd b + rise) then 0 else 8) := Lib.hid (by unfold cbE; rw [if_pos q1])
  obtain ⟨hm, ha, hb, hup, hri⟩ := vl_pair q1
  rw [HN.out] at HS
  clear q1
  by_cases hc : ∃ i s : Nat, c = ((i : Int), (s : Int)) ∧ isC (dist a.1 b.1).toNat (dist a.2 b.2).toNat (i, s)
  case neg =>
    have HR8 : Hid (cbE wd hg g a up b rise c = 8) := Lib.hid (by rw [HCE.out, if_neg (fun h => hc (blk_has h))])
    have HPN := Lib.hid (fun w' => rprofile_none wd hg o g a b c.1 c.2 w' hm ha hb (fun h => hc (by
      rcases h with ⟨h1, h2, h3⟩ | ⟨h1, h2, h3⟩
      · exact ⟨0, c.2.toNat, Prod.ext h1 (by simp only; omega), isC_ax.2 (.inl ⟨rfl, by omega, by omega⟩)⟩
      · exact ⟨1, c.2.toNat, Prod.ext h1 (by simp only; omega), isC_ax.2 (.inr ⟨rfl, by omega, by omega⟩)⟩)))
    unfold mpV plV pfZ at HPN
    rw [HR8.out]
    unfold mpV plV
    clear hc hm ha hb hup hri
    go_enter Try.func32, Try.ntmps32
    go_wp2_with fail
    rw [← HW1.out]
    refine (HS.out _ HB0.out).mono ?_
    rintro e w2 ⟨rfl, hb2⟩
    have HD2 := Lib.hid hb2
    have HB2 := Lib.hid (HB0.out.trans (hb2.mono HB0.out.size))
    obtain ⟨p0, p1, p2, p3, p4, p5, p6, p7⟩ := HRD.out w2 hb2
    have z0 := cellH p7 0
    have z1 := cellH p7 1
    simp at z0 z1
    clear hb2 p7
    go_wp2_with fail
    refine (HPN.out _).mono ?_
    rintro e w3 ⟨rfl, hb3⟩
    have HBZ := Lib.hid (HB2.out.trans ((hb3.alloc hb3.size (.cells #[.int .i64 0, .int .i64 0, .int .i64 0, .int .i64 0, .int .i64 0, .int .i64 0] 54)).mono HB2.out.size))
    obtain ⟨Z, hZ⟩ : ∃ Z, w3.alloc (.cells #[.int .i64 0, .int .i64 0, .int .i64 0, .int .i64 0, .int .i64 0, .int .i64 0] 54) = Z := ⟨_, rfl⟩
    rw [hZ] at HBZ
    have HZ := Lib.hid hZ
    clear hZ hb3 p0 p1 p2 p3 p4 p5 p6 z0 z1
    go_wp2_with fail
    rw [HZ.out]
    refine wp_region_turn 16 (fun _ w' => Below Z.heap.size Z w') (by kernel_rfl) (by kernel_rfl) ((Below.refl _ Z).drew) ?_
    simp only [List.take_succ_cons, List.take_zero, List.drop_succ_cons, List.drop_zero]
    iterate 3
      (apply turnC_step (by rfl); (intro w' hw'; go_simp; first | exact ⟨hw', rfl⟩ | exact rfl))
      simp only [Act.put, List.setIfInBounds_toArray, List.set_cons_succ, List.set_cons_zero]
    iterate 13
      apply turnC_skip (by rfl)
      simp only [Act.put, List.setIfInBounds_toArray, List.set_cons_succ, List.set_cons_zero]
    intro listed w7 _ hw7
    have HB7 := Lib.hid (HBZ.out.trans (hw7.mono HBZ.out.size))
    clear hw7
    go_wp2_with fail
    go_ret
    exact ⟨rfl, HB7.out⟩
  obtain ⟨i, s, rfl, hc⟩ := hc
  have HPY := Lib.hid (fun w' (h : Below w.heap.size w w') => rprofile_yes wd hg o g a b i s w' (HV.out.keep h) hm ha hb hc)
  obtain ⟨x1, x2, x3, x4⟩ := on_idx hm ha
  obtain ⟨y1, y2, y3, y4⟩ := on_idx hm hb
  have HCA := Lib.hid (fun w' (h : Below w.heap.size w w') => rat_any wd hg o g a w' (HV.out.keep h) (by omega) ⟨x2, x3⟩ (by omega))
  have HCB := Lib.hid (fun w' (h : Below w.heap.size w w') => rat_any wd hg o g b w' (HV.out.keep h) (by omega) ⟨y2, y3⟩ (by omega))
  have hA := hAt_bd hm ha
  have hB := hAt_bd hm hb
  have hmb := (mts_bd hm ha hb ((mts_mem (mkM g wd a b (i, s))).2 ⟨i, s, hc, rfl⟩)).2
  have HIN := Lib.hid (blk_iff (g := g) (wd := wd) (u := hAt g wd a + up) (v := hAt g wd b + rise) hc)
  obtain ⟨hq, hqe⟩ : ∃ x, hAt g wd a = x := ⟨_, rfl⟩
  obtain ⟨hr, hre⟩ : ∃ x, hAt g wd b = x := ⟨_, rfl⟩
  rw [hqe] at HCA hA HIN HCE
  rw [hre] at HCB hB HIN HCE
  obtain ⟨x, hx⟩ : ∃ x, mkM g wd a b (i, s) = x := ⟨_, rfl⟩
  rw [hx] at HPY hmb HIN
  have HOV := Lib.hid (fun w' => rover_at x (hq + up) (hr + rise) w' hmb (by omega) (by omega))
  have HW : Hid (IntKind.i64.wrap (hq + up) = hq + up ∧ IntKind.i64.wrap (hr + rise) = hr + rise) := Lib.hid ⟨IntWalk.i64_in _ (by omega), IntWalk.i64_in _ (by omega)⟩
  obtain ⟨ob, hob⟩ : ∃ y, overB (hq + up) (hr + rise) x = y := ⟨_, rfl⟩
  rw [hob] at HOV HIN
  have HRES : Hid (cbE wd hg g a up b rise ((i : Int), (s : Int)) = if ob = true then 0 else 8) := Lib.hid (by
    rw [HCE.out]
    cases ob
    · rw [if_neg (fun h => by have := HIN.out.1 h; cases this), if_neg (by decide)]
    · rw [if_pos (HIN.out.2 rfl), if_pos rfl])
  rw [HRES.out]
  have epf : (pfL x).toArray = #[.int .i64 x.ax, .int .i64 x.k, .int .i64 (lowP x.k x.n).1, .int .i64 (lowP x.k x.n).2, .int .i64 (lowP x.g x.n).1, .int .i64 (lowP x.g x.n).2] := rfl
  rw [epf] at HPY
  unfold mpV plV at HPY HCA HCB
  unfold mpV plV
  clear epf hob hx hmb hc hm ha hb hup hri x1 x2 x3 x4 y1 y2 y3 y4 hqe hre hA hB
  go_enter Try.func32, Try.ntmps32
  go_wp2_with fail
  rw [← HW1.out]
  refine (HS.out _ HB0.out).mono ?_
  rintro e w2 ⟨rfl, hb2⟩
  have HD2 := Lib.hid hb2
  have HB2 := Lib.hid (HB0.out.trans (hb2.mono HB0.out.size))
  obtain ⟨p0, p1, p2, p3, p4, p5, p6, p7⟩ := HRD.out w2 hb2
  have z0 := cellH p7 0
  have z1 := cellH p7 1
  simp at z0 z1
  clear hb2 p7
  go_wp2_with fail
  refine (HPY.out _ HB2.out).mono ?_
  rintro e w3 ⟨rfl, hb3⟩
  have HZB := Lib.hid (hb3.alloc hb3.size (.cells #[.int .i64 x.ax, .int .i64 x.k, .int .i64 (lowP x.k x.n).1, .int .i64 (lowP x.k x.n).2, .int .i64 (lowP x.g x.n).1, .int .i64 (lowP x.g x.n).2] 54))
  have HZR : Hid ((w3.alloc (.cells #[.int .i64 x.ax, .int .i64 x.k, .int .i64 (lowP x.k x.n).1, .int .i64 (lowP x.k x.n).2, .int .i64 (lowP x.g x.n).1, .int .i64 (lowP x.g x.n).2] 54)).heap[w3.heap.size]? = some (.cells #[.int .i64 x.ax, .int .i64 x.k, .int .i64 (lowP x.k x.n).1, .int .i64 (lowP x.k x.n).2, .int .i64 (lowP x.g x.n).1, .int .i64 (lowP x.g x.n).2] 54 (0, 0))) := Lib.hid (heap_alloc_new _ _)
  obtain ⟨Z, hZ⟩ : ∃ Z, w3.alloc (.cells #[.int .i64 x.ax, .int .i64 x.k, .int .i64 (lowP x.k x.n).1, .int .i64 (lowP x.k x.n).2, .int .i64 (lowP x.g x.n).1, .int .i64 (lowP x.g x.n).2] 54) = Z := ⟨_, rfl⟩
  rw [hZ] at HZB HZR
  have HZ := Lib.hid hZ
  have HBz := Lib.hid (HB2.out.trans (HZB.out.mono HB2.out.size))
  have HDz := Lib.hid (HD2.out.trans (HZB.out.mono HD2.out.size))
  clear hZ hb3 p0 p1 p2 p3 p4 p5 p6 z0 z1
  go_wp2_with fail
  rw [HZ.out]
  obtain ⟨c8, hc8⟩ : ∃ n, w3.heap.size = n := ⟨_, rfl⟩
  rw [hc8] at HZR ⊢
  have HC8 := Lib.hid hc8
  clear hc8
  have KZ : Hid (∀ W', Below Z.heap.size Z W' → W'.cell? ⟨c8, 0, none⟩ = some (.int .i64 x.ax) ∧ W'.cell? ⟨c8, 1, none⟩ = some (.int .i64 x.k) ∧ W'.cell? ⟨c8, 2, none⟩ = some (.int .i64 (lowP x.k x.n).1) ∧ W'.cell? ⟨c8, 3, none⟩ = some (.int .i64 (lowP x.k x.n).2) ∧ W'.cell? ⟨c8, 4, none⟩ = some (.int .i64 (lowP x.g x.n).1) ∧ W'.cell? ⟨c8, 5, none⟩ = some (.int .i64 (lowP x.g x.n).2)) := Lib.hid (fun W' h => by
    have m := (h.block _ (Array.getElem?_eq_some_iff.1 HZR.out).1).trans HZR.out
    exact ⟨cellH m 0, cellH m 1, cellH m 2, cellH m 3, cellH m 4, cellH m 5⟩)
  have KA : Hid (∀ w', Below Z.heap.size Z w' → Calls Try.prog 49 #[.agg #[.int .i64 wd, .int .i64 hg, o], .agg #[.int .i64 a.1, .int .i64 a.2]] w' fun e w'' => e = .returned (.int .i64 hq) ∧ Below Z.heap.size Z w'') := Lib.hid (fun w' h => (HCA.out w' (HBz.out.trans (h.mono HBz.out.size))).mono fun e w'' ⟨he, hh⟩ => ⟨he, h.trans (hh.mono h.size)⟩)
  have KB : Hid (∀ w', Below Z.heap.size Z w' → Calls Try.prog 49 #[.agg #[.int .i64 wd, .int .i64 hg, o], .agg #[.int .i64 b.1, .int .i64 b.2]] w' fun e w'' => e = .returned (.int .i64 hr) ∧ Below Z.heap.size Z w'') := Lib.hid (fun w' h => (HCB.out w' (HBz.out.trans (h.mono HBz.out.size))).mono fun e w'' ⟨he, hh⟩ => ⟨he, h.trans (hh.mono h.size)⟩)
  have KO : Hid (∀ w', Below Z.heap.size Z w' → Calls Try.prog 69 #[.agg #[.int .i64 x.ax, .int .i64 x.k, .int .i64 (lowP x.k x.n).1, .int .i64 (lowP x.k x.n).2, .int .i64 (lowP x.g x.n).1, .int .i64 (lowP x.g x.n).2], .int .i64 (hq + up), .int .i64 (hr + rise)] w' fun e w'' => e = .returned (.bool ob) ∧ Below Z.heap.size Z w'') := Lib.hid (fun w' h => (HOV.out w').mono fun e w'' ⟨he, hh⟩ => ⟨he, h.trans (hh.mono h.size)⟩)
  have F1 := HW.out.1
  have F2 := HW.out.2
  refine wp_region_turn 16 (fun _ w' => Below Z.heap.size Z w') (by kernel_rfl) (by kernel_rfl) ((Below.refl _ Z).drew) ?_
  simp only [List.take_succ_cons, List.take_zero, List.drop_succ_cons, List.drop_zero]
  iterate 6
    (apply turnC_step (by rfl); (intro w' hw'; obtain ⟨x0, x1, x2, x3, x4, x5⟩ := KZ.out w' hw'; obtain ⟨p0, p1, p2, p3, p4, p5, p6, p7⟩ := HRD.out w' (HDz.out.trans (hw'.mono HDz.out.size)); clear p7; go_simp; first | exact ⟨hw', rfl⟩ | exact rfl))
    simp only [Act.put, List.setIfInBounds_toArray, List.set_cons_succ, List.set_cons_zero]
  (apply turnC_step (by rfl); (intro w' hw'; go_simp; exact KA.out w' hw'))
  simp only [Act.put, List.setIfInBounds_toArray, List.set_cons_succ, List.set_cons_zero]
  iterate 1
    (apply turnC_step (by rfl); (intro w' hw'; obtain ⟨x0, x1, x2, x3, x4, x5⟩ := KZ.out w' hw'; obtain ⟨p0, p1, p2, p3, p4, p5, p6, p7⟩ := HRD.out w' (HDz.out.trans (hw'.mono HDz.out.size)); clear p7; go_simp; first | exact ⟨hw', rfl⟩ | exact rfl))
    simp only [Act.put, List.setIfInBounds_toArray, List.set_cons_succ, List.set_cons_zero]
  (apply turnC_step (by rfl); (intro w' hw'; go_simp; first | exact congrArg (Value.int .i64) F1 | exact rfl))
  simp only [Act.put, List.setIfInBounds_toArray, List.set_cons_succ, List.set_cons_zero]
  iterate 2
    (apply turnC_step (by rfl); (intro w' hw'; obtain ⟨x0, x1, x2, x3, x4, x5⟩ := KZ.out w' hw'; obtain ⟨p0, p1, p2, p3, p4, p5, p6, p7⟩ := HRD.out w' (HDz.out.trans (hw'.mono HDz.out.size)); clear p7; go_simp; first | exact ⟨hw', rfl⟩ | exact rfl))
    simp only [Act.put, List.setIfInBounds_toArray, List.set_cons_succ, List.set_cons_zero]
  (apply turnC_step (by rfl); (intro w' hw'; go_simp; exact KB.out w' hw'))
  simp only [Act.put, List.setIfInBounds_toArray, List.set_cons_succ, List.set_cons_zero]
  iterate 1
    (apply turnC_step (by rfl); (intro w' hw'; obtain ⟨x0, x1, x2, x3, x4, x5⟩ := KZ.out w' hw'; obtain ⟨p0, p1, p2, p3, p4, p5, p6, p7⟩ := HRD.out w' (HDz.out.trans (hw'.mono HDz.out.size)); clear p7; go_simp; first | exact ⟨hw', rfl⟩ | exact rfl))
    simp only [Act.put, List.setIfInBounds_toArray, List.set_cons_succ, List.set_cons_zero]
  (apply turnC_step (by rfl); (intro w' hw'; go_simp; first | exact congrArg (Value.int .i64) F2 | exact rfl))
  simp only [Act.put, List.setIfInBounds_toArray, List.set_cons_succ, List.set_cons_zero]
  (apply turnC_step (by rfl); (intro w' hw'; go_simp; exact KO.out w' hw'))
  simp only [Act.put, List.setIfInBounds_toArray, List.set_cons_succ, List.set_cons_zero]
  iterate 1
    (apply turnC_step (by rfl); (intro w' hw'; obtain ⟨x0, x1, x2, x3, x4, x5⟩ := KZ.out w' hw'; obtain ⟨p0, p1, p2, p3, p4, p5, p6, p7⟩ := HRD.out w' (HDz.out.trans (hw'.mono HDz.out.size)); clear p7; go_simp; first | exact ⟨hw', rfl⟩ | exact rfl))
    simp only [Act.put, List.setIfInBounds_toArray, List.set_cons_succ, List.set_cons_zero]
  intro listed w7 _ hw7
  have HB7 := Lib.hid (HBz.out.trans (hw7.mono HBz.out.size))
  clear hw7 F1 F2
  cases ob
  · go_wp2_with fail
    go_ret
    exact ⟨ret_int' (by decide), HB7.out⟩
  · go_wp2_with fail
    go_ret
    exact ⟨ret_int' (by decide), HB7.out⟩
end Go.Proofs.Ytkipncjagiidoaa
