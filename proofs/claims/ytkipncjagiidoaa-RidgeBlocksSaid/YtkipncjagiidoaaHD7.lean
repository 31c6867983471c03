/- RidgeBlocks: a line is free exactly if none of its crossings blocks it. -/
import Derived.Test.YtkipncjagiidoaaHC3
import Derived.Test.YtkipncjagiidoaaHD2
import Derived.Test.YtkipncjagiidoaaHE1
import Derived.Test.YtkipncjagiidoaaHT0
set_option linter.unusedVariables false
set_option linter.unusedSimpArgs false
namespace Go.Proofs.Ytkipncjagiidoaa
open Go Go.RowKit

theorem vl_nil {wd hg : Int} {g : List Int} {a b : Pl} {c d : Int} (hv : vlB wd hg g a b [c, d] = true) : vlB wd hg g a b [] = true := by
  unfold vlB tallB at hv ⊢
  simp only [List.all_cons, List.all_nil, Bool.and_true, Bool.and_eq_true] at hv ⊢
  exact hv.1
theorem pfs_at : ∀ (l : List Mt) (i : Nat) (hi : i < l.length), (pfs l)[6 * i]? = some (.int .i64 (l[i]).ax) ∧ (pfs l)[6 * i + 1]? = some (.int .i64 (l[i]).k)
  | [], i, hi => absurd hi (by simp)
  | x :: t, 0, _ => ⟨rfl, rfl⟩
  | x :: t, i + 1, hi => by
    have h := pfs_at t i (by simpa using hi)
    rw [show 6 * (i + 1) = 6 * i + 6 by omega, show 6 * i + 6 + 1 = 6 * i + 1 + 6 by omega]
    exact h
theorem pfs_at6 : ∀ (l : List Mt) (i j : Nat) (hi : i < l.length), j < 6 → (pfs l)[6 * i + j]? = some ((pfL (l[i])).getD j undef)
  | [], i, j, hi, _ => absurd hi (by simp)
  | x :: t, 0, j, _, hj => by
    rcases (by omega : j = 0 ∨ j = 1 ∨ j = 2 ∨ j = 3 ∨ j = 4 ∨ j = 5) with rfl | rfl | rfl | rfl | rfl | rfl <;> rfl
  | x :: t, i + 1, j, hi, hj => by
    have h := pfs_at6 t i j (by simpa using hi) hj
    rw [show 6 * (i + 1) + j = 6 * i + j + 6 by omega]
    exact h
theorem pf_form {w : World} {base : Nat} {v : Value} {l : List Mt} (h : w.ownsRow base 54 6 v l.length (pfs l)) : ∃ a cap, v = .slice a l.length cap ∧ ∀ i (hi : i < l.length), ∃ gb, a = some ⟨gb, 0, none⟩ ∧ gb < w.heap.size ∧ ∀ j, j < 6 → w.cell? ⟨gb, i * 6 + j, none⟩ = some ((pfL (l[i])).getD j undef) := by
  have h' := h
  rcases h.2 with ⟨h0, hn⟩ | ⟨gb, cap, cur, hv, hg, hb, _⟩
  · exact ⟨none, 0, by rw [hn]; exact h0, fun i hi => by omega⟩
  · subst hv
    refine ⟨_, cap, rfl, fun i hi => ⟨gb, rfl, (Array.getElem?_eq_some_iff.1 hb).1, fun j hj => ?_⟩⟩
    have e := pfs_at6 l i j hi hj
    have hlt : 6 * i + j < (pfs l).length := by
      rcases Nat.lt_or_ge (6 * i + j) (pfs l).length with k | k
      · exact k
      · rw [List.getElem?_eq_none k] at e; cases e
    have hl6 : (pfs l).length = l.length * 6 := h.1
    have := World.ownsRow.cellAt h' (6 * i + j) (by omega)
    rw [show i * 6 + j = 6 * i + j by omega, this, ← e, List.getElem?_eq_getElem hlt]
/-- How many of the crossings that were looked at block the line. -/
def CntB (l : List Mt) (bl : List (Int × Int)) (i c : Nat) : Prop := c ≤ i ∧ (c = 0 ↔ ∀ j (hj : j < l.length), j < i → crO l[j] ∉ bl)
theorem CntB.yes {l : List Mt} {bl : List (Int × Int)} {i c : Nat} (h : CntB l bl i c) (hi : i < l.length) (hb : crO l[i] ∈ bl) : CntB l bl (i + 1) (c + 1) :=
  ⟨by have := h.1; omega, ⟨fun h0 => by omega, fun h0 => absurd hb (h0 i hi (by omega))⟩⟩
theorem CntB.no {l : List Mt} {bl : List (Int × Int)} {i c : Nat} (h : CntB l bl i c) (hi : i < l.length) (hb : crO l[i] ∉ bl) : CntB l bl (i + 1) c :=
  ⟨by have := h.1; omega, h.2.trans ⟨fun h0 j hj hji => by
    by_cases e : j = i
    · subst e; exact hb
    · exact h0 j hj (by omega), fun h0 j hj hji => h0 j hj (by omega)⟩⟩
theorem CntB.fin {g : List Int} {wd : Int} {a b : Pl} {u v : Int} {c : Nat} (h : CntB (mts g wd a b) (blk g wd a b u v) (mts g wd a b).length c) : c = 0 ↔ blk g wd a b u v = [] := by
  rw [h.2]
  constructor
  · intro h0
    rw [List.eq_nil_iff_forall_not_mem]
    intro y hy
    obtain ⟨x, hx, rfl⟩ := List.mem_map.1 hy
    obtain ⟨j, hj, rfl⟩ := List.mem_iff_getElem.1 (List.mem_filter.1 hx).1
    exact h0 j hj hj hy
  · intro h0 j hj _ hm
    rw [h0] at hm; cases hm
set_option maxRecDepth 100000 in
set_option maxHeartbeats 8000000 in
theorem blocks_law (wd hg : Int) (o : Value) (g : List Int) (a1 a2 low b1 b2 rise : Int) (w : World) (hv : INRow w o g) (hl : g.length ≤ 9223372036854775807) :
    Calls Try.prog 11 #[mpV wd hg o, .agg #[.int .i64 a1, .int .i64 a2], .int .i64 low, .agg #[.int .i64 b1, .int .i64 b2], .int .i64 rise] w fun e w' => e = .returned (.bool true) ∧ Below w.heap.size w w' := by
  have HCL := Lib.hid (fun w' (h : Below w.heap.size w w') => Clear_any wd hg o g (a1, a2) (b1, b2) low rise w' (hv.keep h) hl)
  have HBK := Lib.hid (fun w' (h : Below w.heap.size w w') => Block_any wd hg o g (a1, a2) (b1, b2) low rise w' (hv.keep h) hl)
  have HCB := Lib.hid (fun c w' (h : Below w.heap.size w w') => CheckBlock_any wd hg o g (a1, a2) (b1, b2) low rise c w' (hv.keep h) hl)
  have HLN := Lib.hid (fun w' (h : Below w.heap.size w w') => Line_any wd hg o g (a1, a2) (b1, b2) w' (hv.keep h) hl)
  have HGR := Lib.hid (fun w' (h : Below w.heap.size w w') => lground_any wd hg o g w' (hv.keep h) hl)
  unfold mpV plV at HCL HBK HCB HLN
  unfold mpV at HGR
  unfold mpV
  obtain ⟨W1, hW1, hb0, hs1, hrd⟩ := three_reads w wd hg o (a1, a2) (b1, b2)
  simp only at hW1 hrd HCL HBK HCB HLN
  have HW1 := Lib.hid hW1; have HB0 := Lib.hid hb0; have HRD := Lib.hid hrd
  clear hW1 hb0 hrd
  have ead : w.heap.size + 1 + 1 = w.heap.size + 2 := rfl
  go_enter Try.func11, Try.ntmps11
  go_wp2_with fail
  rw [← HW1.out]
  refine (head_any W1).mono ?_
  rintro e w2 ⟨rfl, hb⟩
  have HD2 := Lib.hid hb
  have HB2 := Lib.hid (HB0.out.trans (hb.mono HB0.out.size))
  clear hb
  obtain ⟨q0, q1, q2, r0, r1, s0, s1⟩ := HRD.out w2 HD2.out
  go_wp2_with fail
  refine (HGR.out _ HB2.out).mono ?_
  rintro e w3 ⟨rfl, hb⟩
  have HD3 := Lib.hid (HD2.out.trans (hb.mono HD2.out.size))
  have HB3 := Lib.hid (HB2.out.trans (hb.mono HB2.out.size))
  clear hb q0 q1 q2 r0 r1 s0 s1
  cases decide (g.length ≤ 2600)
  · go_wp2_with fail
    go_ret
    exact ⟨rfl, HB3.out⟩
  cases hvl : vlB wd hg g (a1, a2) (b1, b2) [low, rise]
  · have HN : Hid (lnE wd hg g (a1, a2) (b1, b2) [low, rise] = 1) := Lib.hid (by unfold lnE; rw [hvl]; rfl)
    have HN2 : Hid (clB wd hg g (a1, a2) low (b1, b2) rise = false) := Lib.hid (by unfold clB; rw [hvl]; rfl)
    have HN3 : Hid (bkF wd hg g (a1, a2) low (b1, b2) rise = none) := Lib.hid (by unfold bkF; rw [hvl]; rfl)
    rw [HN.out, HN2.out] at HCL
    rw [HN.out, HN3.out] at HBK
    unfold bkT at HBK
    simp only at HBK
    clear hvl
    obtain ⟨q0, q1, q2, r0, r1, s0, s1⟩ := HRD.out w3 HD3.out
    go_wp2_with fail
    refine (HCL.out _ HB3.out).mono ?_
    rintro e w4 ⟨rfl, hb⟩
    have HD4 := Lib.hid (HD3.out.trans (hb.mono HD3.out.size))
    have HB4 := Lib.hid (HB3.out.trans (hb.mono HB3.out.size))
    clear hb q0 q1 q2 r0 r1 s0 s1
    obtain ⟨q0, q1, q2, r0, r1, s0, s1⟩ := HRD.out w4 HD4.out
    go_wp2_with fail
    refine (HBK.out _ HB4.out).mono ?_
    rintro e w5 ⟨rfl, hb⟩
    have HD5 := Lib.hid (HD4.out.trans (hb.mono HD4.out.size))
    have HB5 := Lib.hid (HB4.out.trans (hb.mono HB4.out.size))
    clear hb q0 q1 q2 r0 r1 s0 s1
    have hsz : w.heap.size + 3 ≤ w5.heap.size := by have := HD5.out.size; omega
    have hn0 : w.heap.size ≠ w5.heap.size := by omega
    have hn1 : w.heap.size + 1 ≠ w5.heap.size := by omega
    have hn2 : w.heap.size + 2 ≠ w5.heap.size := by omega
    have hl0 : w.heap.size < w5.heap.size := by omega
    have hl1 : w.heap.size + 1 < w5.heap.size := by omega
    have hl2 : w.heap.size + 2 < w5.heap.size := by omega
    have hY := (Below.refl _ w5).alloc (Nat.le_refl _) (.cells #[.int .i64 (0), .int .i64 (0)] 50)
    have HYR : Hid ((w5.alloc (.cells #[.int .i64 (0), .int .i64 (0)] 50)).heap[w5.heap.size]? = some (.cells #[.int .i64 (0), .int .i64 (0)] 50 (0, 0))) := Lib.hid (heap_alloc_new _ _)
    obtain ⟨Y, hYe⟩ : ∃ Y, w5.alloc (.cells #[.int .i64 (0), .int .i64 (0)] 50) = Y := ⟨_, rfl⟩
    rw [hYe] at hY HYR
    have HY := Lib.hid hYe
    have HDY := Lib.hid (HD5.out.trans (hY.mono HD5.out.size))
    have HBY := Lib.hid (HB5.out.trans (hY.mono HB5.out.size))
    clear hY hYe
    obtain ⟨q0, q1, q2, r0, r1, s0, s1⟩ := HRD.out w5 HD5.out
    go_wp2_with fail
    rw [HY.out]
    clear q0 q1 q2 r0 r1 s0 s1 hn0 hn1 hn2 hl0 hl1 hl2 HY
    obtain ⟨c8, hc8⟩ : ∃ n, w5.heap.size = n := ⟨_, rfl⟩
    rw [hc8] at HYR ⊢
    clear hsz hc8
    refine (HLN.out _ HBY.out).mono ?_
    rintro e w6 ⟨v, rfl, hb, _, _⟩
    have HD6 := Lib.hid (HDY.out.trans (hb.mono HDY.out.size))
    have HB6 := Lib.hid (HBY.out.trans (hb.mono HBY.out.size))
    clear hb
    obtain ⟨le, hle⟩ : ∃ x, lnE wd hg g (a1, a2) (b1, b2) [] = x := ⟨_, rfl⟩
    rw [hle]
    clear hle
    go_wp2_with fail
    go_ret
    exact ⟨rfl, HB6.out⟩
  have HN : Hid (lnE wd hg g (a1, a2) (b1, b2) [low, rise] = 0) := Lib.hid (by unfold lnE; rw [hvl]; rfl)
  have HN5 : Hid (vlB wd hg g (a1, a2) (b1, b2) [] = true) := Lib.hid (vl_nil hvl)
  have HN4 : Hid (lnE wd hg g (a1, a2) (b1, b2) [] = 0) := Lib.hid (by unfold lnE; rw [HN5.out]; rfl)
  have HVL := Lib.hid hvl
  obtain ⟨f1, f2, f3, f4⟩ := vlB_ok hvl
  have HLEN := Lib.hid (mts_len f1 f2 f3)
  clear f1 f2 f3 f4
  cases hbl : blk g wd (a1, a2) (b1, b2) (hAt g wd (a1, a2) + low) (hAt g wd (b1, b2) + rise) with
  | nil =>
    have HN2 : Hid (clB wd hg g (a1, a2) low (b1, b2) rise = true) := Lib.hid (by unfold clB freeB; rw [hvl, hbl]; rfl)
    have HN3 : Hid (bkF wd hg g (a1, a2) low (b1, b2) rise = none) := Lib.hid (by unfold bkF; rw [if_pos hvl, hbl]; rfl)
    have HBL := Lib.hid hbl
    rw [HN.out, HN2.out] at HCL
    rw [HN.out, HN3.out] at HBK
    unfold bkT at HBK
    simp only at HBK
    clear hvl hbl
    obtain ⟨q0, q1, q2, r0, r1, s0, s1⟩ := HRD.out w3 HD3.out
    go_wp2_with fail
    refine (HCL.out _ HB3.out).mono ?_
    rintro e w4 ⟨rfl, hb⟩
    have HD4 := Lib.hid (HD3.out.trans (hb.mono HD3.out.size))
    have HB4 := Lib.hid (HB3.out.trans (hb.mono HB3.out.size))
    clear hb q0 q1 q2 r0 r1 s0 s1
    obtain ⟨q0, q1, q2, r0, r1, s0, s1⟩ := HRD.out w4 HD4.out
    go_wp2_with fail
    refine (HBK.out _ HB4.out).mono ?_
    rintro e w5 ⟨rfl, hb⟩
    have HD5 := Lib.hid (HD4.out.trans (hb.mono HD4.out.size))
    have HB5 := Lib.hid (HB4.out.trans (hb.mono HB4.out.size))
    clear hb q0 q1 q2 r0 r1 s0 s1
    have hsz : w.heap.size + 3 ≤ w5.heap.size := by have := HD5.out.size; omega
    have hn0 : w.heap.size ≠ w5.heap.size := by omega
    have hn1 : w.heap.size + 1 ≠ w5.heap.size := by omega
    have hn2 : w.heap.size + 2 ≠ w5.heap.size := by omega
    have hl0 : w.heap.size < w5.heap.size := by omega
    have hl1 : w.heap.size + 1 < w5.heap.size := by omega
    have hl2 : w.heap.size + 2 < w5.heap.size := by omega
    have hY := (Below.refl _ w5).alloc (Nat.le_refl _) (.cells #[.int .i64 (0), .int .i64 (0)] 50)
    have HYR : Hid ((w5.alloc (.cells #[.int .i64 (0), .int .i64 (0)] 50)).heap[w5.heap.size]? = some (.cells #[.int .i64 (0), .int .i64 (0)] 50 (0, 0))) := Lib.hid (heap_alloc_new _ _)
    obtain ⟨Y, hYe⟩ : ∃ Y, w5.alloc (.cells #[.int .i64 (0), .int .i64 (0)] 50) = Y := ⟨_, rfl⟩
    rw [hYe] at hY HYR
    have HY := Lib.hid hYe
    have HDY := Lib.hid (HD5.out.trans (hY.mono HD5.out.size))
    have HBY := Lib.hid (HB5.out.trans (hY.mono HB5.out.size))
    clear hY hYe
    obtain ⟨q0, q1, q2, r0, r1, s0, s1⟩ := HRD.out w5 HD5.out
    go_wp2_with fail
    rw [HY.out]
    clear q0 q1 q2 r0 r1 s0 s1 hn0 hn1 hn2 hl0 hl1 hl2 HY
    obtain ⟨c8, hc8⟩ : ∃ n, w5.heap.size = n := ⟨_, rfl⟩
    rw [hc8] at HYR ⊢
    clear hsz hc8
    refine (HLN.out _ HBY.out).mono ?_
    rintro e w6 ⟨v, rfl, hb, _, h1⟩
    rw [HN4.out]
    obtain ⟨va, vc, rfl, hpf⟩ := pf_form (h1 HN5.out)
    have HPF := Lib.hid hpf
    have HD6 := Lib.hid (HDY.out.trans (hb.mono HDY.out.size))
    have HB6 := Lib.hid (HBY.out.trans (hb.mono HBY.out.size))
    clear hb h1 hpf
    go_wp2_with fail
    have hlen := HLEN.out
    obtain ⟨len, hle⟩ : ∃ n, (mts g wd (a1, a2) (b1, b2)).length = n := ⟨_, rfl⟩
    rw [hle] at hlen ⊢
    have HLE := Lib.hid hle
    clear hle
    go_wp2_with fail
    go_loopw [19, 20] (fun s i wr => ∃ (c k : Nat), k ≤ len ∧ s = .int .i64 c ∧ i = .int .i64 k ∧ Hid (CntB (mts g wd (a1, a2) (b1, b2)) (blk g wd (a1, a2) (b1, b2) (hAt g wd (a1, a2) + low) (hAt g wd (b1, b2) + rise)) k c) ∧ Hid (Below w6.heap.size w6 wr)) (fun _ i _ => len - (intOf i).toNat)
    case atStart => exact ⟨0, 0, Nat.zero_le _, rfl, rfl, Lib.hid ⟨Nat.le_refl _, by simp⟩, Lib.hid (Below.refl _ _)⟩
    case round =>
      obtain ⟨c, k, hk, rfl, rfl, hC, hB⟩ := hrel
      have HDr := Lib.hid (HD6.out.trans (hB.out.mono HD6.out.size))
      have HBr := Lib.hid (HB6.out.trans (hB.out.mono HB6.out.size))
      by_cases hkl : k < len
      · obtain ⟨gb, rfl, hgb, hcell⟩ := HPF.out k (by rw [HLE.out]; exact hkl)
        have hkm : k < (mts g wd (a1, a2) (b1, b2)).length := by rw [HLE.out]; exact hkl
        obtain ⟨x, hx⟩ : ∃ x, (mts g wd (a1, a2) (b1, b2))[k] = x := ⟨_, rfl⟩
        rw [hx] at hcell
        have HX := Lib.hid hx
        have KR : Hid (∀ W', Below wr.heap.size wr W' → W'.cell? ⟨gb, k * 6, none⟩ = some (.int .i64 x.ax) ∧ W'.cell? ⟨gb, k * 6 + 1, none⟩ = some (.int .i64 x.k)) := Lib.hid (fun W' h => by
          have hb2 := hB.out.trans (h.mono hB.out.size)
          exact ⟨(hb2.cell (p := ⟨gb, _, none⟩) hgb).trans (hcell 0 (by decide)), (hb2.cell (p := ⟨gb, _, none⟩) hgb).trans (hcell 1 (by decide))⟩)
        have KC : Hid (∀ w', Below wr.heap.size wr w' → Calls Try.prog 31 #[.agg #[.int .i64 wd, .int .i64 hg, o], .agg #[.int .i64 a1, .int .i64 a2], .int .i64 low, .agg #[.int .i64 b1, .int .i64 b2], .int .i64 rise, .agg #[.int .i64 x.ax, .int .i64 x.k]] w' fun e w'' => e = .returned (.int .i64 (cbE wd hg g (a1, a2) low (b1, b2) rise (crO x))) ∧ Below wr.heap.size wr w'') := Lib.hid (fun w' h => (HCB.out (crO x) w' (HBr.out.trans (h.mono HBr.out.size))).mono fun e w'' ⟨he, hh⟩ => ⟨he, h.trans (hh.mono h.size)⟩)
        have HCE : Hid (cbE wd hg g (a1, a2) low (b1, b2) rise (crO x) = if crO x ∈ blk g wd (a1, a2) (b1, b2) (hAt g wd (a1, a2) + low) (hAt g wd (b1, b2) + rise) then 0 else 8) := Lib.hid (by unfold cbE; rw [if_pos HVL.out])
        have hki : (k : Int) < len := by omega
        have hk0 : (0 : Int) ≤ k := by omega
        clear hgb hcell hx
        by_cases hin : crO x ∈ blk g wd (a1, a2) (b1, b2) (hAt g wd (a1, a2) + low) (hAt g wd (b1, b2) + rise)
        · rw [if_pos hin] at HCE
          rw [HCE.out] at KC
          have HC2 := Lib.hid (hC.out.yes hkm (by rw [HX.out]; exact hin))
          clear hin
          go_wp2_with fail
          refine wp_region_turn 11 (fun _ w' => Below wr.heap.size wr w') (by kernel_rfl) (by kernel_rfl) ((Below.refl _ wr).drew) ?_
          simp only [List.take_succ_cons, List.take_zero, List.drop_succ_cons, List.drop_zero]
          iterate 10
            (apply turnC_step (by rfl); (intro w' hw'; obtain ⟨q0, q1, q2, r0, r1, s0, s1⟩ := HRD.out w' (HDr.out.trans (hw'.mono HDr.out.size)); obtain ⟨x0, x1⟩ := KR.out w' hw'; go_simp; first | exact ⟨hw', rfl⟩ | exact rfl))
            simp only [Act.put, List.setIfInBounds_toArray, List.set_cons_succ, List.set_cons_zero]
          (apply turnC_step (by rfl); (intro w' hw'; go_simp; exact KC.out w' hw'))
          simp only [Act.put, List.setIfInBounds_toArray, List.set_cons_succ, List.set_cons_zero]
          intro listed w7 _ hw7
          have HB7 := Lib.hid (hB.out.trans (hw7.mono hB.out.size))
          have hck := hC.out.1
          clear hw7
          go_wp2_with fail
          go_roundw
          case rel => exact ⟨c + 1, k + 1, by omega, by go_num, by go_num, HC2, HB7⟩
          case measure => simp [intOf]; omega
        · rw [if_neg hin] at HCE
          rw [HCE.out] at KC
          have HC2 := Lib.hid (hC.out.no hkm (by rw [HX.out]; exact hin))
          clear hin
          go_wp2_with fail
          refine wp_region_turn 11 (fun _ w' => Below wr.heap.size wr w') (by kernel_rfl) (by kernel_rfl) ((Below.refl _ wr).drew) ?_
          simp only [List.take_succ_cons, List.take_zero, List.drop_succ_cons, List.drop_zero]
          iterate 10
            (apply turnC_step (by rfl); (intro w' hw'; obtain ⟨q0, q1, q2, r0, r1, s0, s1⟩ := HRD.out w' (HDr.out.trans (hw'.mono HDr.out.size)); obtain ⟨x0, x1⟩ := KR.out w' hw'; go_simp; first | exact ⟨hw', rfl⟩ | exact rfl))
            simp only [Act.put, List.setIfInBounds_toArray, List.set_cons_succ, List.set_cons_zero]
          (apply turnC_step (by rfl); (intro w' hw'; go_simp; exact KC.out w' hw'))
          simp only [Act.put, List.setIfInBounds_toArray, List.set_cons_succ, List.set_cons_zero]
          intro listed w7 _ hw7
          have HB7 := Lib.hid (hB.out.trans (hw7.mono hB.out.size))
          clear hw7
          go_wp2_with fail
          go_roundw
          case rel => exact ⟨c, k + 1, by omega, rfl, by go_num, HC2, HB7⟩
          case measure => simp [intOf]; omega
      · obtain rfl : k = len := by omega
        have hfin : c = 0 ↔ blk g wd (a1, a2) (b1, b2) (hAt g wd (a1, a2) + low) (hAt g wd (b1, b2) + rise) = [] := by
          have h2 := hC.out
          rw [← HLE.out] at h2
          exact h2.fin
        obtain rfl : c = 0 := hfin.2 HBL.out
        clear hfin
        go_wp2_with fail
        go_ret
        exact ⟨rfl, HBr.out⟩
  | cons d t =>
    have HN2 : Hid (clB wd hg g (a1, a2) low (b1, b2) rise = false) := Lib.hid (by unfold clB freeB; rw [hvl, hbl]; rfl)
    have HN3 : Hid (bkF wd hg g (a1, a2) low (b1, b2) rise = some d) := Lib.hid (by unfold bkF; rw [if_pos hvl, hbl]; rfl)
    have HBL := Lib.hid hbl
    rw [HN.out, HN2.out] at HCL
    rw [HN.out, HN3.out] at HBK
    unfold bkT at HBK
    simp only at HBK
    clear hvl hbl
    obtain ⟨q0, q1, q2, r0, r1, s0, s1⟩ := HRD.out w3 HD3.out
    go_wp2_with fail
    refine (HCL.out _ HB3.out).mono ?_
    rintro e w4 ⟨rfl, hb⟩
    have HD4 := Lib.hid (HD3.out.trans (hb.mono HD3.out.size))
    have HB4 := Lib.hid (HB3.out.trans (hb.mono HB3.out.size))
    clear hb q0 q1 q2 r0 r1 s0 s1
    obtain ⟨q0, q1, q2, r0, r1, s0, s1⟩ := HRD.out w4 HD4.out
    go_wp2_with fail
    refine (HBK.out _ HB4.out).mono ?_
    rintro e w5 ⟨rfl, hb⟩
    have HD5 := Lib.hid (HD4.out.trans (hb.mono HD4.out.size))
    have HB5 := Lib.hid (HB4.out.trans (hb.mono HB4.out.size))
    clear hb q0 q1 q2 r0 r1 s0 s1
    have hsz : w.heap.size + 3 ≤ w5.heap.size := by have := HD5.out.size; omega
    have hn0 : w.heap.size ≠ w5.heap.size := by omega
    have hn1 : w.heap.size + 1 ≠ w5.heap.size := by omega
    have hn2 : w.heap.size + 2 ≠ w5.heap.size := by omega
    have hl0 : w.heap.size < w5.heap.size := by omega
    have hl1 : w.heap.size + 1 < w5.heap.size := by omega
    have hl2 : w.heap.size + 2 < w5.heap.size := by omega
    have hY := (Below.refl _ w5).alloc (Nat.le_refl _) (.cells #[.int .i64 (d.1), .int .i64 (d.2)] 50)
    have HYR : Hid ((w5.alloc (.cells #[.int .i64 (d.1), .int .i64 (d.2)] 50)).heap[w5.heap.size]? = some (.cells #[.int .i64 (d.1), .int .i64 (d.2)] 50 (0, 0))) := Lib.hid (heap_alloc_new _ _)
    obtain ⟨Y, hYe⟩ : ∃ Y, w5.alloc (.cells #[.int .i64 (d.1), .int .i64 (d.2)] 50) = Y := ⟨_, rfl⟩
    rw [hYe] at hY HYR
    have HY := Lib.hid hYe
    have HDY := Lib.hid (HD5.out.trans (hY.mono HD5.out.size))
    have HBY := Lib.hid (HB5.out.trans (hY.mono HB5.out.size))
    clear hY hYe
    obtain ⟨q0, q1, q2, r0, r1, s0, s1⟩ := HRD.out w5 HD5.out
    go_wp2_with fail
    rw [HY.out]
    clear q0 q1 q2 r0 r1 s0 s1 hn0 hn1 hn2 hl0 hl1 hl2 HY
    obtain ⟨c8, hc8⟩ : ∃ n, w5.heap.size = n := ⟨_, rfl⟩
    rw [hc8] at HYR ⊢
    clear hsz hc8
    refine (HLN.out _ HBY.out).mono ?_
    rintro e w6 ⟨v, rfl, hb, _, h1⟩
    rw [HN4.out]
    obtain ⟨va, vc, rfl, hpf⟩ := pf_form (h1 HN5.out)
    have HPF := Lib.hid hpf
    have HD6 := Lib.hid (HDY.out.trans (hb.mono HDY.out.size))
    have HB6 := Lib.hid (HBY.out.trans (hb.mono HBY.out.size))
    have HCC : Hid (∀ W', Below Y.heap.size Y W' → W'.cell? ⟨c8, 0, none⟩ = some (.int .i64 d.1) ∧ W'.cell? ⟨c8, 1, none⟩ = some (.int .i64 d.2)) := Lib.hid (fun W' h => by
      have x0 := (h.block _ (Array.getElem?_eq_some_iff.1 HYR.out).1).trans HYR.out
      exact ⟨cellH x0 0, cellH x0 1⟩)
    have KC0 : Hid (∀ w' (h : Below w.heap.size w w'), Calls Try.prog 31 #[.agg #[.int .i64 wd, .int .i64 hg, o], .agg #[.int .i64 a1, .int .i64 a2], .int .i64 low, .agg #[.int .i64 b1, .int .i64 b2], .int .i64 rise, .agg #[.int .i64 d.1, .int .i64 d.2]] w' fun e w'' => e = .returned (.int .i64 0) ∧ Below w'.heap.size w' w'') := Lib.hid (fun w' h => by
      have h2 := HCB.out d w' h
      rw [show cbE wd hg g (a1, a2) low (b1, b2) rise d = 0 by unfold cbE; rw [if_pos HVL.out, if_pos (by rw [HBL.out]; exact List.mem_cons_self ..)]] at h2
      exact h2)
    obtain ⟨x0, x1⟩ := HCC.out w6 hb
    obtain ⟨q0, q1, q2, r0, r1, s0, s1⟩ := HRD.out w6 HD6.out
    clear h1 hpf hb
    go_wp2_with fail
    refine (KC0.out _ HB6.out).mono ?_
    rintro e w9 ⟨rfl, hb⟩
    have HD9 := Lib.hid (HD6.out.trans (hb.mono HD6.out.size))
    have HB9 := Lib.hid (HB6.out.trans (hb.mono HB6.out.size))
    have HPF := Lib.hid (fun i hi => by
      obtain ⟨gb, e1, e2, e3⟩ := HPF.out i hi
      exact (⟨gb, e1, Nat.lt_of_lt_of_le e2 hb.size, fun j hj => (hb.cell (p := ⟨gb, _, none⟩) e2).trans (e3 j hj)⟩ : ∃ gb, va = some ⟨gb, 0, none⟩ ∧ gb < w9.heap.size ∧ ∀ j, j < 6 → w9.cell? ⟨gb, i * 6 + j, none⟩ = some ((pfL ((mts g wd (a1, a2) (b1, b2))[i])).getD j undef)))
    clear hb x0 x1 q0 q1 q2 r0 r1 s0 s1
    have hlen := HLEN.out
    obtain ⟨len, hle⟩ : ∃ n, (mts g wd (a1, a2) (b1, b2)).length = n := ⟨_, rfl⟩
    rw [hle] at hlen ⊢
    have HLE := Lib.hid hle
    clear hle
    go_wp2_with fail
    go_loopw [19, 20] (fun s i wr => ∃ (c k : Nat), k ≤ len ∧ s = .int .i64 c ∧ i = .int .i64 k ∧ Hid (CntB (mts g wd (a1, a2) (b1, b2)) (blk g wd (a1, a2) (b1, b2) (hAt g wd (a1, a2) + low) (hAt g wd (b1, b2) + rise)) k c) ∧ Hid (Below w9.heap.size w9 wr)) (fun _ i _ => len - (intOf i).toNat)
    case atStart => exact ⟨0, 0, Nat.zero_le _, rfl, rfl, Lib.hid ⟨Nat.le_refl _, by simp⟩, Lib.hid (Below.refl _ _)⟩
    case round =>
      obtain ⟨c, k, hk, rfl, rfl, hC, hB⟩ := hrel
      have HDr := Lib.hid (HD9.out.trans (hB.out.mono HD9.out.size))
      have HBr := Lib.hid (HB9.out.trans (hB.out.mono HB9.out.size))
      by_cases hkl : k < len
      · obtain ⟨gb, rfl, hgb, hcell⟩ := HPF.out k (by rw [HLE.out]; exact hkl)
        have hkm : k < (mts g wd (a1, a2) (b1, b2)).length := by rw [HLE.out]; exact hkl
        obtain ⟨x, hx⟩ : ∃ x, (mts g wd (a1, a2) (b1, b2))[k] = x := ⟨_, rfl⟩
        rw [hx] at hcell
        have HX := Lib.hid hx
        have KR : Hid (∀ W', Below wr.heap.size wr W' → W'.cell? ⟨gb, k * 6, none⟩ = some (.int .i64 x.ax) ∧ W'.cell? ⟨gb, k * 6 + 1, none⟩ = some (.int .i64 x.k)) := Lib.hid (fun W' h => by
          have hb2 := hB.out.trans (h.mono hB.out.size)
          exact ⟨(hb2.cell (p := ⟨gb, _, none⟩) hgb).trans (hcell 0 (by decide)), (hb2.cell (p := ⟨gb, _, none⟩) hgb).trans (hcell 1 (by decide))⟩)
        have KC : Hid (∀ w', Below wr.heap.size wr w' → Calls Try.prog 31 #[.agg #[.int .i64 wd, .int .i64 hg, o], .agg #[.int .i64 a1, .int .i64 a2], .int .i64 low, .agg #[.int .i64 b1, .int .i64 b2], .int .i64 rise, .agg #[.int .i64 x.ax, .int .i64 x.k]] w' fun e w'' => e = .returned (.int .i64 (cbE wd hg g (a1, a2) low (b1, b2) rise (crO x))) ∧ Below wr.heap.size wr w'') := Lib.hid (fun w' h => (HCB.out (crO x) w' (HBr.out.trans (h.mono HBr.out.size))).mono fun e w'' ⟨he, hh⟩ => ⟨he, h.trans (hh.mono h.size)⟩)
        have HCE : Hid (cbE wd hg g (a1, a2) low (b1, b2) rise (crO x) = if crO x ∈ blk g wd (a1, a2) (b1, b2) (hAt g wd (a1, a2) + low) (hAt g wd (b1, b2) + rise) then 0 else 8) := Lib.hid (by unfold cbE; rw [if_pos HVL.out])
        have hki : (k : Int) < len := by omega
        have hk0 : (0 : Int) ≤ k := by omega
        clear hgb hcell hx
        by_cases hin : crO x ∈ blk g wd (a1, a2) (b1, b2) (hAt g wd (a1, a2) + low) (hAt g wd (b1, b2) + rise)
        · rw [if_pos hin] at HCE
          rw [HCE.out] at KC
          have HC2 := Lib.hid (hC.out.yes hkm (by rw [HX.out]; exact hin))
          clear hin
          go_wp2_with fail
          refine wp_region_turn 11 (fun _ w' => Below wr.heap.size wr w') (by kernel_rfl) (by kernel_rfl) ((Below.refl _ wr).drew) ?_
          simp only [List.take_succ_cons, List.take_zero, List.drop_succ_cons, List.drop_zero]
          iterate 10
            (apply turnC_step (by rfl); (intro w' hw'; obtain ⟨q0, q1, q2, r0, r1, s0, s1⟩ := HRD.out w' (HDr.out.trans (hw'.mono HDr.out.size)); obtain ⟨x0, x1⟩ := KR.out w' hw'; go_simp; first | exact ⟨hw', rfl⟩ | exact rfl))
            simp only [Act.put, List.setIfInBounds_toArray, List.set_cons_succ, List.set_cons_zero]
          (apply turnC_step (by rfl); (intro w' hw'; go_simp; exact KC.out w' hw'))
          simp only [Act.put, List.setIfInBounds_toArray, List.set_cons_succ, List.set_cons_zero]
          intro listed w7 _ hw7
          have HB7 := Lib.hid (hB.out.trans (hw7.mono hB.out.size))
          have hck := hC.out.1
          clear hw7
          go_wp2_with fail
          go_roundw
          case rel => exact ⟨c + 1, k + 1, by omega, by go_num, by go_num, HC2, HB7⟩
          case measure => simp [intOf]; omega
        · rw [if_neg hin] at HCE
          rw [HCE.out] at KC
          have HC2 := Lib.hid (hC.out.no hkm (by rw [HX.out]; exact hin))
          clear hin
          go_wp2_with fail
          refine wp_region_turn 11 (fun _ w' => Below wr.heap.size wr w') (by kernel_rfl) (by kernel_rfl) ((Below.refl _ wr).drew) ?_
          simp only [List.take_succ_cons, List.take_zero, List.drop_succ_cons, List.drop_zero]
          iterate 10
            (apply turnC_step (by rfl); (intro w' hw'; obtain ⟨q0, q1, q2, r0, r1, s0, s1⟩ := HRD.out w' (HDr.out.trans (hw'.mono HDr.out.size)); obtain ⟨x0, x1⟩ := KR.out w' hw'; go_simp; first | exact ⟨hw', rfl⟩ | exact rfl))
            simp only [Act.put, List.setIfInBounds_toArray, List.set_cons_succ, List.set_cons_zero]
          (apply turnC_step (by rfl); (intro w' hw'; go_simp; exact KC.out w' hw'))
          simp only [Act.put, List.setIfInBounds_toArray, List.set_cons_succ, List.set_cons_zero]
          intro listed w7 _ hw7
          have HB7 := Lib.hid (hB.out.trans (hw7.mono hB.out.size))
          clear hw7
          go_wp2_with fail
          go_roundw
          case rel => exact ⟨c, k + 1, by omega, rfl, by go_num, HC2, HB7⟩
          case measure => simp [intOf]; omega
      · obtain rfl : k = len := by omega
        have hfin : c = 0 ↔ blk g wd (a1, a2) (b1, b2) (hAt g wd (a1, a2) + low) (hAt g wd (b1, b2) + rise) = [] := by
          have h2 := hC.out
          rw [← HLE.out] at h2
          exact h2.fin
        have hc0 : 0 < c := by
          rcases Nat.eq_zero_or_pos c with h | h
          · rw [hfin.1 h] at HBL; cases HBL.out
          · exact h
        have hci : ((c : Int) == 0) = false := by simpa using (show (c : Int) ≠ 0 by omega)
        clear hfin
        go_wp2_with fail
        go_ret
        exact ⟨rfl, HBr.out⟩
theorem blocks_card (wd hg : Int) (o : Value) (g : List Int) (a1 a2 low b1 b2 rise : Int) (w : World) (hv : INRow w o g) (hl : g.length ≤ 9223372036854775807) (_ : -9223372036854775808 ≤ low ∧ low ≤ 9223372036854775807) (_ : -9223372036854775808 ≤ rise ∧ rise ≤ 9223372036854775807) :
    Calls Try.prog 11 #[mpV wd hg o, .agg #[.int .i64 a1, .int .i64 a2], .int .i64 low, .agg #[.int .i64 b1, .int .i64 b2], .int .i64 rise] w fun e w' => e = .returned (.bool true) ∧ Below w.heap.size w w' :=
  blocks_law wd hg o g a1 a2 low b1 b2 rise w hv hl
end Go.Proofs.Ytkipncjagiidoaa
