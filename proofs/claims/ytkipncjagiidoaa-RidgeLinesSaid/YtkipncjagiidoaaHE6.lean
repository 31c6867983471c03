/- RidgeLines: Line answers as the reference does. -/
import Derived.Test.YtkipncjagiidoaaHE5
import Derived.Test.YtkipncjagiidoaaHC3
import Derived.Test.YtkipncjagiidoaaHD2
set_option linter.unusedVariables false
set_option linter.unusedSimpArgs false
namespace Go.Proofs.Ytkipncjagiidoaa
open Go Go.RowKit

theorem four_reads (w : World) (wd hg : Int) (o : Value) (a b : Pl) : ∃ W1, W1 = (((w.alloc (.cells #[.int .i64 wd, .int .i64 hg, o] 24)).alloc (.cells #[.int .i64 a.1, .int .i64 a.2] 30)).alloc (.cells #[.int .i64 b.1, .int .i64 b.2] 30)).alloc (.cells #[.slice none 0 0, .int .i64 0] 47) ∧ Below w.heap.size w W1 ∧ W1.heap.size = w.heap.size + 4 ∧
    ∀ W', Below W1.heap.size W1 W' → W'.cell? ⟨w.heap.size, 0, none⟩ = some (.int .i64 wd) ∧ W'.cell? ⟨w.heap.size, 1, none⟩ = some (.int .i64 hg) ∧ W'.cell? ⟨w.heap.size, 2, none⟩ = some o ∧ W'.cell? ⟨w.heap.size + 1, 0, none⟩ = some (.int .i64 a.1) ∧ W'.cell? ⟨w.heap.size + 1, 1, none⟩ = some (.int .i64 a.2) ∧
      W'.cell? ⟨w.heap.size + 2, 0, none⟩ = some (.int .i64 b.1) ∧ W'.cell? ⟨w.heap.size + 2, 1, none⟩ = some (.int .i64 b.2) ∧ W'.heap[w.heap.size + 3]? = some (.cells #[.slice none 0 0, .int .i64 0] 47 (0, 0)) := by
  refine ⟨_, rfl, (((((Below.refl _ w).alloc (Nat.le_refl _) _).alloc (by simp) _).alloc (by simp; omega) _).alloc (by simp; omega) _), by simp, fun W' h => ?_⟩
  have hb : ∀ (j : Nat) (O : Option Obj), j < w.heap.size + 4 → ((((w.alloc (.cells #[.int .i64 wd, .int .i64 hg, o] 24)).alloc (.cells #[.int .i64 a.1, .int .i64 a.2] 30)).alloc (.cells #[.int .i64 b.1, .int .i64 b.2] 30)).alloc (.cells #[.slice none 0 0, .int .i64 0] 47)).heap[j]? = O → W'.heap[j]? = O := fun j O hj e => (h.block j (by simp; omega)).trans e
  have m0 : W'.heap[w.heap.size]? = some (.cells #[.int .i64 wd, .int .i64 hg, o] 24 (0, 0)) := hb _ _ (by omega) (by
    repeat first
      | exact gAt _ _ _ (by first | omega | (simp only [World.size_alloc]; done) | (simp only [World.size_alloc]; omega))
      | rw [gNe _ _ _ (by first | omega | (simp only [World.size_alloc]; omega))])
  have m1 : W'.heap[w.heap.size + 1]? = some (.cells #[.int .i64 a.1, .int .i64 a.2] 30 (0, 0)) := hb _ _ (by omega) (by
    repeat first
      | exact gAt _ _ _ (by first | omega | (simp only [World.size_alloc]; done) | (simp only [World.size_alloc]; omega))
      | rw [gNe _ _ _ (by first | omega | (simp only [World.size_alloc]; omega))])
  have m2 : W'.heap[w.heap.size + 2]? = some (.cells #[.int .i64 b.1, .int .i64 b.2] 30 (0, 0)) := hb _ _ (by omega) (by
    repeat first
      | exact gAt _ _ _ (by first | omega | (simp only [World.size_alloc]; done) | (simp only [World.size_alloc]; omega))
      | rw [gNe _ _ _ (by first | omega | (simp only [World.size_alloc]; omega))])
  have m3 : W'.heap[w.heap.size + 3]? = some (.cells #[.slice none 0 0, .int .i64 0] 47 (0, 0)) := hb _ _ (by omega) (by
    repeat first
      | exact gAt _ _ _ (by first | omega | (simp only [World.size_alloc]; done) | (simp only [World.size_alloc]; omega))
      | rw [gNe _ _ _ (by first | omega | (simp only [World.size_alloc]; omega))])
  exact ⟨cellH m0 0, cellH m0 1, cellH m0 2, cellH m1 0, cellH m1 1, cellH m2 0, cellH m2 1, m3⟩
theorem info_prs : (Try.prog.info? 47).map (·.size) = some 2 := by kernel_rfl
theorem vl_parts {wd hg : Int} {g : List Int} {a b : Pl} (h : vlB wd hg g a b [] = true) : vmB wd hg g = true ∧ onB wd hg a = true ∧ onB wd hg b = true := by
  obtain ⟨h1, h2, h3, _⟩ := vlB_ok h; exact ⟨h1, h2, h3⟩
set_option maxRecDepth 100000 in
set_option maxHeartbeats 4000000 in
theorem rLine_any (wd hg : Int) (o : Value) (g : List Int) (a b : Pl) (w : World) (hv : INRow w o g) (hl : g.length ≤ 9223372036854775807) :
    Calls Try.prog 26 #[mpV wd hg o, plV a, plV b] w fun e w' => ∃ v, e = .returned (.agg #[v, .int .i64 (lnE wd hg g a b [])]) ∧ Below w.heap.size w w' ∧ (vlB wd hg g a b [] = false → v = .slice none 0 0) ∧ (vlB wd hg g a b [] = true → w'.ownsRow w.heap.size 54 6 v (mts g wd a b).length (pfs (mts g wd a b))) := by
  have H1 := Lib.hid (fun w' (h : Below w.heap.size w w') => rlined_any wd hg o g a b w' (hv.keep h) hl)
  have H2 := Lib.hid (fun (hq : vlB wd hg g a b [] = true) w' (h : Below w.heap.size w w') => rline_any wd hg o g a b w' (hv.keep h) (vl_parts hq).1 (vl_parts hq).2.1 (vl_parts hq).2.2)
  obtain ⟨W1, hW1, hb0, hs1, hrd⟩ := four_reads w wd hg o a b
  have HW1 := Lib.hid hW1; have HB0 := Lib.hid hb0; have HRD := Lib.hid hrd
  clear hW1 hb0 hrd hv hl
  unfold mpV plV at H1 H2
  unfold mpV plV
  have ead : w.heap.size + 1 + 1 = w.heap.size + 2 := rfl
  have ead2 : w.heap.size + 2 + 1 = w.heap.size + 3 := rfl
  cases q1 : vlB wd hg g a b []
  · have HN : Hid (lnE wd hg g a b [] = 1) := Lib.hid (by unfold lnE; rw [q1]; rfl)
    rw [HN.out] at H1
    rw [HN.out]
    clear q1 H2
    go_enter Try.func26, Try.ntmps26
    go_wp2_with fail
    rw [← HW1.out]
    refine (H1.out _ HB0.out).mono ?_
    rintro e w2 ⟨rfl, hb2⟩
    have HB2 := Lib.hid (HB0.out.trans (hb2.mono HB0.out.size))
    obtain ⟨_, _, _, _, _, _, _, p9⟩ := HRD.out w2 hb2
    have x0 := cellH p9 0
    have x1 := cellH p9 1
    have xf := freeH p9
    simp at x0 x1
    have HR := Lib.hid (heap_same (heap_same p9 0 (.slice none 0 0)) 1 (.int .i64 1))
    have HB9 := Lib.hid ((HB2.out.setCell (p := ⟨w.heap.size + 3, 0, none⟩) (by simp) (.slice none 0 0)).setCell (p := ⟨w.heap.size + 3, 1, none⟩) (by simp) (.int .i64 1))
    clear hb2 p9
    go_wp2_with fail
    exact bodyPost_ret (results_cell_row Try.results26 _ _ (w.heap.size + 3) 47 #[.slice none 0 0, .int .i64 1] (0, 0) _ rfl HR.out Try.underlying47 rfl info_prs) rfl ⟨_, rfl, HB9.out, fun _ => rfl, fun h => by cases h⟩
  · have HN : Hid (lnE wd hg g a b [] = 0) := Lib.hid (by unfold lnE; rw [q1]; rfl)
    rw [HN.out] at H1
    rw [HN.out]
    have H2 := Lib.hid (H2.out q1)
    clear q1
    go_enter Try.func26, Try.ntmps26
    go_wp2_with fail
    rw [← HW1.out]
    refine (H1.out _ HB0.out).mono ?_
    rintro e w2 ⟨rfl, hb2⟩
    have HD2 := Lib.hid hb2
    have HB2 := Lib.hid (HB0.out.trans (hb2.mono HB0.out.size))
    clear hb2
    obtain ⟨p0, p1, p2, p3, p4, p5, p6, p9⟩ := HRD.out w2 HD2.out
    go_wp2_with fail
    refine (H2.out _ HB2.out).mono ?_
    rintro e w3 ⟨v, rfl, hb3, ho⟩
    obtain ⟨va, vc, rfl, _⟩ := pf_form ho
    have HB3 := Lib.hid (HB2.out.trans (hb3.mono HB2.out.size))
    have HO := Lib.hid ho
    have hlt3 : w.heap.size + 3 < w2.heap.size := (Array.getElem?_eq_some_iff.1 p9).1
    have p9 := (hb3.block _ hlt3).trans p9
    have x0 := cellH p9 0
    have x1 := cellH p9 1
    have xf := freeH p9
    simp at x0 x1
    have HR := Lib.hid (heap_same (heap_same p9 0 (.slice va (mts g wd a b).length vc)) 1 (.int .i64 0))
    have HB9 := Lib.hid ((HB3.out.setCell (p := ⟨w.heap.size + 3, 0, none⟩) (by simp) (.slice va (mts g wd a b).length vc)).setCell (p := ⟨w.heap.size + 3, 1, none⟩) (by simp) (.int .i64 0))
    have HOF : Hid (((w3.setCell ⟨w.heap.size + 3, 0, none⟩ (.slice va (mts g wd a b).length vc)).setCell ⟨w.heap.size + 3, 1, none⟩ (.int .i64 0)).ownsRow w.heap.size 54 6 (.slice va (mts g wd a b).length vc) (mts g wd a b).length (pfs (mts g wd a b))) := Lib.hid (own_base (ownsRow_setCell_below (ownsRow_setCell_below ho (a := ⟨w.heap.size + 3, 0, none⟩) hlt3 (.slice va (mts g wd a b).length vc)) (a := ⟨w.heap.size + 3, 1, none⟩) hlt3 (.int .i64 0)) (by omega))
    clear hb3 p9 p0 p1 p2 p3 p4 p5 p6 ho hlt3
    go_wp2_with fail
    refine bodyPost_ret (results_cell_row Try.results26 _ _ (w.heap.size + 3) 47 #[(.slice va (mts g wd a b).length vc), .int .i64 0] (0, 0) _ rfl HR.out Try.underlying47 rfl info_prs) rfl ?_
    exact ⟨_, rfl, HB9.out, (fun h => by cases h), fun _ => HOF.out⟩
set_option maxRecDepth 100000 in
set_option maxHeartbeats 8000000 in
theorem lines_law (wd hg : Int) (o : Value) (g : List Int) (a1 a2 b1 b2 : Int) (w : World) (hv : INRow w o g) (hl : g.length ≤ 9223372036854775807) :
    Calls Try.prog 4 #[mpV wd hg o, .agg #[.int .i64 a1, .int .i64 a2], .agg #[.int .i64 b1, .int .i64 b2]] w fun e w' => e = .returned (.bool true) ∧ Below w.heap.size w w' := by
  have HLN := Lib.hid (fun w' (h : Below w.heap.size w w') => Line_any wd hg o g (a1, a2) (b1, b2) w' (hv.keep h) hl)
  have HRL := Lib.hid (fun w' (h : Below w.heap.size w w') => rLine_any wd hg o g (a1, a2) (b1, b2) w' (hv.keep h) hl)
  have HGR := Lib.hid (fun w' (h : Below w.heap.size w w') => lground_any wd hg o g w' (hv.keep h) hl)
  unfold mpV plV at HLN HRL
  unfold mpV at HGR
  unfold mpV
  obtain ⟨W1, hW1, hb0, hs1, hrd⟩ := three_reads w wd hg o (a1, a2) (b1, b2)
  simp only at hW1 hrd HLN HRL
  have HW1 := Lib.hid hW1; have HB0 := Lib.hid hb0; have HRD := Lib.hid hrd
  clear hW1 hb0 hrd
  have ead : w.heap.size + 1 + 1 = w.heap.size + 2 := rfl
  go_enter Try.func4, Try.ntmps4
  go_wp2_with fail
  rw [← HW1.out]
  refine (head_any W1).mono ?_
  rintro e w2 ⟨rfl, hb⟩
  have HD2 := Lib.hid hb
  have HB2 := Lib.hid (HB0.out.trans (hb.mono HB0.out.size))
  clear hb
  obtain ⟨q0, q1, q2, r0, r1, s0, s1⟩ := HRD.out w2 HD2.out
  go_wp2_with fail
  refine (HGR.out _ HB2.out).mono ?_
  rintro e w3 ⟨rfl, hb⟩
  have HD3 := Lib.hid (HD2.out.trans (hb.mono HD2.out.size))
  have HB3 := Lib.hid (HB2.out.trans (hb.mono HB2.out.size))
  clear hb q0 q1 q2 r0 r1 s0 s1
  cases decide (g.length ≤ 2600)
  · go_wp2_with fail
    go_ret
    exact ⟨rfl, HB3.out⟩
  obtain ⟨q0, q1, q2, r0, r1, s0, s1⟩ := HRD.out w3 HD3.out
  go_wp2_with fail
  refine (HLN.out _ HB3.out).mono ?_
  rintro e w4 ⟨v, rfl, hb, hvn, hvo⟩
  have HD4 := Lib.hid (HD3.out.trans (hb.mono HD3.out.size))
  have HB4 := Lib.hid (HB3.out.trans (hb.mono HB3.out.size))
  have HVN := Lib.hid hvn; have HVO := Lib.hid hvo
  clear hb hvn hvo q0 q1 q2 r0 r1 s0 s1
  obtain ⟨q0, q1, q2, r0, r1, s0, s1⟩ := HRD.out w4 HD4.out
  go_wp2_with fail
  refine (HRL.out _ HB4.out).mono ?_
  rintro e w5 ⟨u, rfl, hb, hun, huo⟩
  have HB5 := Lib.hid (HB4.out.trans (hb.mono HB4.out.size))
  have HN5 := Lib.hid hb
  have HUN := Lib.hid hun; have HUO := Lib.hid huo
  clear hb hun huo q0 q1 q2 r0 r1 s0 s1
  have HZR : Hid ((w5.alloc (.cells #[u, .int .i64 (lnE wd hg g (a1, a2) (b1, b2) [])] 47)).heap[w5.heap.size]? = some (.cells #[u, .int .i64 (lnE wd hg g (a1, a2) (b1, b2) [])] 47 (0, 0))) := Lib.hid (heap_alloc_new _ _)
  have HZB := Lib.hid ((Below.refl _ w5).alloc (Nat.le_refl _) (.cells #[u, .int .i64 (lnE wd hg g (a1, a2) (b1, b2) [])] 47))
  cases hq : vlB wd hg g (a1, a2) (b1, b2) []
  · obtain rfl := HVN.out hq
    obtain rfl := HUN.out hq
    obtain ⟨le, hle⟩ : ∃ x, lnE wd hg g (a1, a2) (b1, b2) [] = x := ⟨_, rfl⟩
    rw [hle] at HZR HZB ⊢
    clear HVN HUN HVO HUO hq hle
    have HBZ := Lib.hid (HB5.out.trans (HZB.out.mono HB5.out.size))
    go_wp2_with fail
    go_loopw [11] (fun i wr => i = .int .i64 0 ∧ Hid (Below w.heap.size w wr)) (fun _ _ => 0)
    case atStart => exact ⟨rfl, HBZ⟩
    case round =>
      obtain ⟨rfl, hB⟩ := hrel
      go_wp2_with fail
      go_ret
      exact ⟨rfl, hB.out⟩
  · have HN : Hid (lnE wd hg g (a1, a2) (b1, b2) [] = 0) := Lib.hid (by unfold lnE; rw [hq]; rfl)
    rw [HN.out] at HZR HZB ⊢
    have hvo := HVO.out hq
    have huo := HUO.out hq
    obtain ⟨va, vc, rfl, hpf⟩ := pf_form hvo
    obtain ⟨ua, uc, rfl, hpu⟩ := pf_form huo
    have hlen : (mts g wd (a1, a2) (b1, b2)).length ≤ 96 := mts_len (vl_parts hq).1 (vl_parts hq).2.1 (vl_parts hq).2.2
    have HPF := Lib.hid hpf; have HPU := Lib.hid hpu
    obtain ⟨len, hle⟩ : ∃ n, (mts g wd (a1, a2) (b1, b2)).length = n := ⟨_, rfl⟩
    have HLE := Lib.hid hle
    rw [hle] at hlen HZR HZB ⊢
    have HBZ := Lib.hid (HB5.out.trans (HZB.out.mono HB5.out.size))
    clear HVN HUN HVO HUO hq hvo huo hpf hpu hle
    obtain ⟨Z, hZ⟩ : ∃ Z, w5.alloc (.cells #[.slice ua len uc, .int .i64 0] 47) = Z := ⟨_, rfl⟩
    rw [hZ] at HZR HZB HBZ
    have HZ := Lib.hid hZ
    clear hZ
    go_wp2_with fail
    rw [HZ.out]
    obtain ⟨c8, hc8⟩ : ∃ n, w5.heap.size = n := ⟨_, rfl⟩
    rw [hc8] at HZR ⊢
    have HC8 := Lib.hid hc8
    clear hc8
    go_loopw [11] (fun i wr => ∃ (k : Nat), k ≤ len ∧ i = .int .i64 k ∧ Hid (Below Z.heap.size Z wr)) (fun i _ => len - (intOf i).toNat)
    case atStart => exact ⟨0, Nat.zero_le _, rfl, Lib.hid (Below.refl _ _)⟩
    case round =>
      obtain ⟨k, hk, rfl, hB⟩ := hrel
      by_cases hkl : k < len
      · obtain ⟨gb, rfl, hgb, hcell⟩ := HPF.out k (by rw [HLE.out]; exact hkl)
        obtain ⟨gu, rfl, hgu, hcelu⟩ := HPU.out k (by rw [HLE.out]; exact hkl)
        obtain ⟨x, hx⟩ : ∃ x, (mts g wd (a1, a2) (b1, b2))[k]'(by rw [HLE.out]; exact hkl) = x := ⟨_, rfl⟩
        rw [hx] at hcell hcelu
        have KR : Hid (∀ W', Below wr.heap.size wr W' → W'.cell? ⟨c8, 0, none⟩ = some (.slice (some ⟨gu, 0, none⟩) len uc) ∧ (∀ j, j < 6 → W'.cell? ⟨gb, k * 6 + j, none⟩ = some ((pfL x).getD j undef)) ∧ ∀ j, j < 6 → W'.cell? ⟨gu, k * 6 + j, none⟩ = some ((pfL x).getD j undef)) := Lib.hid (fun W' h => by
          have hb2 := hB.out.trans (h.mono hB.out.size)
          have hb3 := HZB.out.trans (hb2.mono HZB.out.size)
          have hb4 := HN5.out.trans (hb3.mono HN5.out.size)
          have m := (hb2.block _ (Array.getElem?_eq_some_iff.1 HZR.out).1).trans HZR.out
          exact ⟨cellH m 0, fun j hj => (hb4.cell (p := ⟨gb, _, none⟩) hgb).trans (hcell j hj), fun j hj => (hb3.cell (p := ⟨gu, _, none⟩) hgu).trans (hcelu j hj)⟩)
        have HBr := Lib.hid (HBZ.out.trans (hB.out.mono HBZ.out.size))
        have hki : (k : Int) < len := by omega
        have hk0 : (0 : Int) ≤ k := by omega
        clear hgb hgu hcell hcelu hx
        go_wp2_with fail
        refine wp_region_turn 9 (fun _ w' => Below wr.heap.size wr w') (by kernel_rfl) (by kernel_rfl) ((Below.refl _ wr).drew) ?_
        simp only [List.take_succ_cons, List.take_zero, List.drop_succ_cons, List.drop_zero]
        iterate 9
          (apply turnC_step (by rfl); (intro w' hw'; obtain ⟨c0, cx, cu⟩ := KR.out w' hw'; have x0 : w'.cell? ⟨gb, k * 6, none⟩ = some (.int .i64 x.ax) := cx 0 (by decide); have x1 : w'.cell? ⟨gb, k * 6 + 1, none⟩ = some (.int .i64 x.k) := cx 1 (by decide); have x2 : w'.cell? ⟨gb, k * 6 + 2, none⟩ = some (.int .i64 (lowP x.k x.n).1) := cx 2 (by decide); have x3 : w'.cell? ⟨gb, k * 6 + 3, none⟩ = some (.int .i64 (lowP x.k x.n).2) := cx 3 (by decide); have x4 : w'.cell? ⟨gb, k * 6 + 4, none⟩ = some (.int .i64 (lowP x.g x.n).1) := cx 4 (by decide); have x5 : w'.cell? ⟨gb, k * 6 + 5, none⟩ = some (.int .i64 (lowP x.g x.n).2) := cx 5 (by decide); have u0 : w'.cell? ⟨gu, k * 6, none⟩ = some (.int .i64 x.ax) := cu 0 (by decide); have u1 : w'.cell? ⟨gu, k * 6 + 1, none⟩ = some (.int .i64 x.k) := cu 1 (by decide); have u2 : w'.cell? ⟨gu, k * 6 + 2, none⟩ = some (.int .i64 (lowP x.k x.n).1) := cu 2 (by decide); have u3 : w'.cell? ⟨gu, k * 6 + 3, none⟩ = some (.int .i64 (lowP x.k x.n).2) := cu 3 (by decide); have u4 : w'.cell? ⟨gu, k * 6 + 4, none⟩ = some (.int .i64 (lowP x.g x.n).1) := cu 4 (by decide); have u5 : w'.cell? ⟨gu, k * 6 + 5, none⟩ = some (.int .i64 (lowP x.g x.n).2) := cu 5 (by decide); clear cx cu; go_simp; first | exact ⟨hw', rfl⟩ | exact rfl))
          simp only [Act.put, List.setIfInBounds_toArray, List.set_cons_succ, List.set_cons_zero]
        intro listed w7 _ hw7
        have HB7 := Lib.hid (hB.out.trans (hw7.mono hB.out.size))
        clear hw7
        go_wp2_with fail
        go_roundw
        case rel => exact ⟨k + 1, by omega, by go_num, HB7⟩
        case measure => simp [intOf]; omega
      · obtain rfl : k = len := by omega
        have HBr := Lib.hid (HBZ.out.trans (hB.out.mono HBZ.out.size))
        go_wp2_with fail
        go_ret
        exact ⟨rfl, HBr.out⟩
theorem lines_card (wd hg : Int) (o : Value) (g : List Int) (a1 a2 b1 b2 : Int) (w : World) (hv : INRow w o g) (hl : g.length ≤ 9223372036854775807) :
    Calls Try.prog 4 #[mpV wd hg o, .agg #[.int .i64 a1, .int .i64 a2], .agg #[.int .i64 b1, .int .i64 b2]] w fun e w' => e = .returned (.bool true) ∧ Below w.heap.size w w' :=
  lines_law wd hg o g a1 a2 b1 b2 w hv hl
end Go.Proofs.Ytkipncjagiidoaa
