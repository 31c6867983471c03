/- turned of the law: the map that is turned over. -/
import Derived.Test.YtjllkmekchmmbaaHT9
import Derived.Test.YtjllkmekchmmbaaHJ0
import Derived.Test.YtjllkmekchmmbaaHD3
set_option linter.unusedVariables false
set_option linter.unusedSimpArgs false
namespace Go.Proofs.Ytjllkmekchmmbaa
open Go Go.RowKit

set_option maxRecDepth 100000 in
set_option maxHeartbeats 8000000 in
theorem turned_any (wd hg : Int) (o : Value) (g : List Int) (h p1 p2 : Int) (w : World) (hv : INRow w o g) (hm : vmB wd hg g = true) (h0 : 0 ≤ h ∧ h ≤ 255) (hp : onB wd hg (p1, p2) = true) :
    Calls Try.prog 31 #[.agg #[.int .i64 wd, .int .i64 hg, o], .int .u8 h, .agg #[.int .i64 p1, .int .i64 p2]] w fun e w' => ∃ o' g', e = .returned (.tuple #[mpV (mirW wd hg h) (mirW hg wd h) o', plV (mirP wd hg h (p1, p2))]) ∧ Below w.heap.size w w' ∧ INRow w' o' g' ∧ MirOk wd hg h g g' 0 hg := by
  obtain ⟨a1, a2, a3, a4, a5, a6⟩ := vmB_ok hm
  have HM := Lib.hid hm
  have HP := Lib.hid hp
  have hgl : 0 < g.length := by
    have := Int.mul_pos (show 0 < wd by omega) (show 0 < hg by omega)
    omega
  have hgm : g.length ≤ 2401 := (on_idx hm hp).2.2.2
  obtain ⟨oa, oc, rfl, hcc⟩ := hv.form
  obtain ⟨gb, go, rfl, hgb, _⟩ := hcc 0 hgl
  have HCC : Hid (∀ W', Below w.heap.size w W' → ∀ k, k < g.length → W'.cell? ⟨gb, go + k, none⟩ = some (.int .i64 (g.getD k 0))) := Lib.hid (fun W' hb k hk => by
    obtain ⟨b', o', e', hb', hc'⟩ := hcc k hk
    cases e'
    exact (hb.cell (p := ⟨gb, _, none⟩) hb').trans hc')
  have HA := Lib.hid (fun W' => four_cellsJ w #[.int .i64 wd, .int .i64 hg, .slice (some ⟨gb, go, none⟩) g.length oc] #[.int .i64 p1, .int .i64 p2] #[.int .i64 0, .int .i64 0, .slice none 0 0] #[.int .i64 0, .int .i64 0] 24 30 24 30 (W := W'))
  have HB0 := Lib.hid (((((Below.refl _ w).alloc (Nat.le_refl w.heap.size) (.cells #[.int .i64 wd, .int .i64 hg, .slice (some ⟨gb, go, none⟩) g.length oc] 24)).alloc (by simp) (.cells #[.int .i64 p1, .int .i64 p2] 30)).alloc (by simp; omega) (.cells #[.int .i64 0, .int .i64 0, .slice none 0 0] 24)).alloc (by simp; omega) (.cells #[.int .i64 0, .int .i64 0] 30))
  obtain ⟨W1, hW1⟩ : ∃ W1, (((w.alloc (.cells #[.int .i64 wd, .int .i64 hg, .slice (some ⟨gb, go, none⟩) g.length oc] 24)).alloc (.cells #[.int .i64 p1, .int .i64 p2] 30)).alloc (.cells #[.int .i64 0, .int .i64 0, .slice none 0 0] 24)).alloc (.cells #[.int .i64 0, .int .i64 0] 30) = W1 := ⟨_, rfl⟩
  rw [hW1] at HA HB0
  have HW1 := Lib.hid hW1
  have HS1 : Hid (W1.heap.size = w.heap.size + 4) := Lib.hid (by rw [← hW1]; simp)
  have ead : w.heap.size + 1 + 1 = w.heap.size + 2 := rfl
  have ead2 : w.heap.size + 2 + 1 = w.heap.size + 3 := rfl
  have HRD : Hid (∀ W', Below W1.heap.size W1 W' → W'.cell? ⟨w.heap.size, 0, none⟩ = some (.int .i64 wd) ∧ W'.cell? ⟨w.heap.size, 1, none⟩ = some (.int .i64 hg) ∧ W'.cell? ⟨w.heap.size, 2, none⟩ = some (.slice (some ⟨gb, go, none⟩) g.length oc)) := Lib.hid (fun W' hb => by
    obtain ⟨m0, _, _, _, _, _⟩ := HA.out W' hb
    exact ⟨cellH m0 0, cellH m0 1, cellH m0 2⟩)
  clear hW1 hcc hv hm hp a5 a6
  go_enter Try.func31, Try.ntmps31
  go_wp2_with fail
  rw [HW1.out]
  obtain ⟨q0, q1, q2⟩ := HRD.out W1 (Below.refl _ _)
  go_wp2_with fail
  obtain ⟨i0, hi0, hz0, hz1, hz2⟩ := info_parts info_in
  have HQ : Hid (∀ W', Below W1.heap.size W1 W' → ∀ i u, (g.map (Value.int .i64 ·))[i]? = some u → W'.cell? ((⟨gb, go, none⟩ : Addr).add i) = some u) := Lib.hid (fun W' hb i u hi => by
    rw [addr_add]
    have hil : i < g.length := by have := (List.getElem?_eq_some_iff.1 hi).1; simpa using this
    rw [HCC.out W' (HB0.out.trans (hb.mono HB0.out.size)) i hil, ← hi]
    simp [List.getD_eq_getElem?_getD, hil])
  rename_i Q K hK
  clear q0 q1 q2
  suffices key : ∀ (R : Nat) (ga : Option Addr) (gc : Nat) (x16 : Value) (WW : World), Hid (Below W1.heap.size W1 WW) → Hid (WW.heap[R]? = some (.cells #[.int .i64 wd, .int .i64 hg, .slice ga g.length gc] 24 (0, 0))) → Hid (W1.heap.size ≤ R) → Hid (WW.ownsRow W1.heap.size 3 1 (.slice ga g.length gc) g.length (g.map (Value.int .i64 ·))) → Exit.then K Q Exit.normal { tmps := #[.agg #[.int .i64 wd, .int .i64 hg, .slice (some ⟨gb, go, none⟩) g.length oc], .int .u8 h, .agg #[.int .i64 p1, .int .i64 p2], .pointer (some ⟨w.heap.size, 0, none⟩), undef, .pointer (some ⟨w.heap.size + 1, 0, none⟩), .pointer (some ⟨w.heap.size + 2, 0, none⟩), .pointer (some ⟨w.heap.size + 3, 0, none⟩), .pointer (some ⟨R, 0, none⟩), undef, undef, undef, .pointer (some ⟨w.heap.size, 0, none⟩), .int .i64 wd, .pointer (some ⟨w.heap.size, 1, none⟩), .int .i64 hg, x16, .pointer (some ⟨w.heap.size, 2, none⟩), .slice (some ⟨gb, go, none⟩) g.length oc, .slice ga g.length gc, .agg #[.int .i64 wd, .int .i64 hg, .slice ga g.length gc], undef, undef, undef, undef, undef, undef, undef, undef, undef, undef, undef, undef, undef, undef, undef, undef, undef, undef, undef, undef, undef, undef, undef, undef, undef, undef, undef, undef, undef, undef, undef, undef, undef, undef, undef, undef, undef, undef, undef, undef, undef, undef, undef, undef, undef, undef, undef, undef, undef, undef, undef, undef, undef, undef], defers := [] } WW by
    have hKD : (fun w' => Below W1.heap.size W1 w' ∧ w'.cell? ⟨w.heap.size, 0, none⟩ = some (.int .i64 wd) ∧ w'.cell? ⟨w.heap.size, 1, none⟩ = some (.int .i64 hg) ∧ w'.cell? ⟨w.heap.size, 2, none⟩ = some (.slice (some ⟨gb, go, none⟩) g.length oc)) W1.drew := ⟨(Below.refl _ W1).drew, HRD.out _ (Below.refl _ W1).drew⟩
    have hKB : ∀ w', Below W1.heap.size W1 w' → (fun w' => Below W1.heap.size W1 w' ∧ w'.cell? ⟨w.heap.size, 0, none⟩ = some (.int .i64 wd) ∧ w'.cell? ⟨w.heap.size, 1, none⟩ = some (.int .i64 hg) ∧ w'.cell? ⟨w.heap.size, 2, none⟩ = some (.slice (some ⟨gb, go, none⟩) g.length oc)) w' := fun w' h => ⟨h, HRD.out _ h⟩
    have HKD := Lib.hid hKD
    have HKB := Lib.hid hKB
    clear hKD hKB
    go_region_held_law (fun w' => Below W1.heap.size W1 w' ∧ w'.cell? ⟨w.heap.size, 0, none⟩ = some (.int .i64 wd) ∧ w'.cell? ⟨w.heap.size, 1, none⟩ = some (.int .i64 hg) ∧ w'.cell? ⟨w.heap.size, 2, none⟩ = some (.slice (some ⟨gb, go, none⟩) g.length oc)) (first
        | exact HKD.out
        | assumption
        | (refine HKB.out _ (Below.alloc (And.left (by assumption)) ?_ _); exact (And.left (by assumption : Below W1.heap.size W1 _ ∧ _)).size)
        | (refine HKB.out _ (Below.setCell (Below.setCell (Below.setCell HB6 ?_ _) ?_ _) ?_ _) <;> first | (simp; done) | (simp; omega) | exact Nat.le_refl _)
        | (trace_state; fail)) (first
      | (refine step_append_own rfl (.tmp 16) (.tmp 18) 22 rfl 3 i0 (.int .i64 0) 1 8 Try.underlying22 hi0 hz0 hz1 hz2 rfl (by decide) W1.heap.size _ 0 [] rfl (by first | exact made_a W1 _ _ | exact made_b W1 _ _ _ | exact made_c W1 _ _ _) ⟨gb, go, none⟩ g.length oc (g.map (Value.int .i64 ·)) rfl (by simp) (HQ.out _ (And.left (by assumption))) one_ints (by unfold maxLen; omega) (by omega) (by first | (simp; done) | (simp; omega)) ?_; intro v2 w6 HO2 HG2; rw [Nat.zero_add, List.nil_append] at HO2; obtain ⟨ga, gc, rfl⟩ := row_form HO2; have HB6 : Below W1.heap.size W1 w6 := Below.grown (And.left (by assumption)) HG2 (by first | (simp; done) | (simp; omega)) (fun k e => by cases e; first | (simp; done) | (simp; omega) | exact Nat.le_refl _); have hS6 := HKB.out w6 HB6; have hs6 := HB6.size; first
          | (have hN6 := nf_b HG2 rfl; have x0 := cellH hN6 0; have x1 := cellH hN6 1; have x2 := cellH hN6 2; have f0 := freeH hN6; simp at x0 x1 x2)
          | (have hN6 := nf_c HG2 rfl; have x0 := cellH hN6 0; have x1 := cellH hN6 1; have x2 := cellH hN6 2; have f0 := freeH hN6; simp at x0 x1 x2)
          | (trace_state; skip)))
    all_goals clear hK
    all_goals first
      | exact key w6.heap.size ga gc _ _ (Lib.hid (HB6.alloc hs6 _)) (Lib.hid (heap_alloc_new w6 _)) (Lib.hid hs6) (Lib.hid (HO2.alloc _))
      | exact key _ ga gc _ _ (Lib.hid (And.left (by assumption))) (Lib.hid (heap_same (heap_same (heap_same hN6 0 _) 1 _) 2 _)) (Lib.hid (by first | exact Nat.le_refl _ | omega)) (Lib.hid (row_set (row_set (row_set HO2 hN6 tMI 0 _) (heap_same hN6 0 _) tMI 1 _) (heap_same (heap_same hN6 0 _) 1 _) tMI 2 _))
      | (trace_state; fail)
  intro R ga gc x16 WW HWB HWN HWP HWR
  show K _ _
  apply hK
  clear hK
  obtain ⟨nb, rfl, hmw⟩ := MpW.of_own HWB.out HWP.out HWN.out HWR.out hgl
  have HMW := Lib.hid hmw
  have HD := Lib.hid HWB.out
  obtain ⟨q0, q1, q2⟩ := HRD.out WW HWB.out
  have HR := Lib.hid HWN.out
  clear hmw HWN HWR HWB
  refine seq_join (fun a' w' => ∃ u21 u22 u23 u24 u25 u26 u27 u28 u29 u30 : Value, a' = { tmps := #[.agg #[.int .i64 wd, .int .i64 hg, .slice (some ⟨gb, go, none⟩) g.length oc], .int .u8 h, .agg #[.int .i64 p1, .int .i64 p2], .pointer (some ⟨w.heap.size, 0, none⟩), undef, .pointer (some ⟨w.heap.size + 1, 0, none⟩), .pointer (some ⟨w.heap.size + 2, 0, none⟩), .pointer (some ⟨w.heap.size + 3, 0, none⟩), .pointer (some ⟨R, 0, none⟩), undef, undef, undef, .pointer (some ⟨w.heap.size, 0, none⟩), .int .i64 wd, .pointer (some ⟨w.heap.size, 1, none⟩), .int .i64 hg, x16, .pointer (some ⟨w.heap.size, 2, none⟩), .slice (some ⟨gb, go, none⟩) g.length oc, .slice (some ⟨nb, 0, none⟩) g.length gc, .agg #[.int .i64 wd, .int .i64 hg, .slice (some ⟨nb, 0, none⟩) g.length gc], u21, u22, u23, u24, u25, u26, u27, u28, u29, u30, undef, undef, undef, undef, undef, undef, undef, undef, undef, undef, undef, undef, undef, undef, undef, undef, undef, undef, undef, undef, undef, undef, undef, undef, undef, undef, undef, undef, undef, undef, undef, undef, undef, undef, undef, undef, undef, undef, undef, undef, undef, undef, undef, undef], defers := [] } ∧ Hid (MpW W1.heap.size R nb (mirW wd hg h) (mirW hg wd h) g.length gc g W1 w')) ?_ ?_
  · have b3 : h / 4 % 2 = 1 ∨ h / 4 % 2 = 0 := by omega
    rcases b3 with b3 | b3
    · have HE : Hid (mirW wd hg h = hg ∧ mirW hg wd h = wd) := Lib.hid (by unfold mirW; simp [b3])
      rw [HE.out.1, HE.out.2]
      have x0 := cellH HR.out 0
      have x1 := cellH HR.out 1
      have x2 := cellH HR.out 2
      have xf := freeH HR.out
      simp at x0 x1 x2
      have hRs : w.heap.size + 4 ≤ R := by have h1 := HWP.out; have h2 := HS1.out; omega
      have n0 : w.heap.size ≠ R := by omega
      have n1 : R ≠ w.heap.size := by omega
      have HF : Hid (MpW W1.heap.size R nb hg wd g.length gc g W1 ((WW.setCell ⟨R, 0, none⟩ (.int .i64 hg)).setCell ⟨R, 1, none⟩ (.int .i64 wd))) := Lib.hid (by
        obtain ⟨h1, h2, h3, h4, h5, h6, cur, h7, h8⟩ := HMW.out
        refine ⟨(h1.setCell (p := ⟨R, 0, none⟩) h2 _).setCell (p := ⟨R, 1, none⟩) h2 _, h2, h3, h4, heap_same (heap_same h5 0 _) 1 _, h6, cur, (heap_other _ _ _ _ _ h4.symm).trans ((heap_other _ _ _ _ _ h4.symm).trans h7), h8⟩)
      go_wp2_with fail
      go_region
      all_goals exact ⟨_, _, _, _, _, _, _, _, _, _, rfl, Lib.hid (HF.out.keep ((Below.refl _ _).drew) HF.out.1.size)⟩
    · have HE : Hid (mirW wd hg h = wd ∧ mirW hg wd h = hg) := Lib.hid (by unfold mirW; simp [b3])
      rw [HE.out.1, HE.out.2]
      go_wp2_with fail
      exact ⟨_, _, _, _, _, _, _, _, _, _, rfl, HMW⟩
  rintro a' w2 ⟨u21, u22, u23, u24, u25, u26, u27, u28, u29, u30, rfl, HM2⟩
  clear q0 q1 q2 HR HMW HD
  go_wp2_with fail
  go_loopw [9] (fun y wr => ∃ (k : Nat) (g1 : List Int), (k : Int) ≤ hg ∧ y = .int .i64 k ∧ Hid (MirOk wd hg h g g1 0 k) ∧ Hid (MpW W1.heap.size R nb (mirW wd hg h) (mirW hg wd h) g.length gc g1 W1 wr)) (fun y _ => hg.toNat - (intOf y).toNat)
  case atStart => exact ⟨0, g, by omega, rfl, Lib.hid (MirOk.start h HM.out), HM2⟩
  case round =>
    obtain ⟨k, g1, hk, rfl, hO, hW⟩ := hrel
    clear HM2
    by_cases hkl : (k : Int) < hg
    · obtain ⟨q0, q1, q2⟩ := HRD.out wr hW.out.1
      go_wp2_with fail
      clear q0 q1 q2
      go_loopw [10] (fun x wr => ∃ (j : Nat) (g2 : List Int), (j : Int) ≤ wd ∧ x = .int .i64 j ∧ Hid (MirOk wd hg h g g2 j k) ∧ Hid (MpW W1.heap.size R nb (mirW wd hg h) (mirW hg wd h) g.length gc g2 W1 wr)) (fun x _ => wd.toNat - (intOf x).toNat)
      case atStart => exact ⟨0, g1, by omega, rfl, hO, hW⟩
      case round =>
        obtain ⟨j, g2, hj, rfl, hO2, hW2⟩ := hrel
        obtain ⟨q0, q1, q2⟩ := HRD.out wr hW2.out.1
        clear hO hW
        by_cases hjl : (j : Int) < wd
        · have HON : Hid (onB wd hg ((j : Int), (k : Int)) = true) := Lib.hid (onB_mk (by simp only; omega))
          have HMI := Lib.hid (fun w' => mirrored_any wd hg (.slice (some ⟨gb, go, none⟩) g.length oc) h ((j : Int), (k : Int)) w' h0 ⟨a1, a2⟩ ⟨a3, a4⟩ (by simp only; omega))
          have HIX := Lib.hid (mir_index (h := h) HM.out HON.out hO2.out.len hO2.out.bd)
          have HST := Lib.hid (hO2.out.step HM.out HON.out)
          have HIG := Lib.hid (on_idx HM.out HON.out)
          obtain ⟨⟨mx, my⟩, hme⟩ : ∃ q, mirP wd hg h ((j : Int), (k : Int)) = q := ⟨_, rfl⟩
          rw [hme] at HMI HIX HST
          unfold mpV plV at HMI
          simp only at HMI HIX HIG
          obtain ⟨mw, hmw⟩ : ∃ x, mirW wd hg h = x := ⟨_, rfl⟩
          have HMWE := Lib.hid hmw
          rw [hmw] at HIX
          obtain ⟨i1, i2, i3, i4⟩ := HIX.out
          obtain ⟨i5, i6, i7, _⟩ := HIG.out
          obtain ⟨n1, hn1⟩ : ∃ n : Nat, my * mw + mx = n := ⟨(my * mw + mx).toNat, by omega⟩
          obtain ⟨n2, hn2⟩ : ∃ n : Nat, (k : Int) * wd + j = n := ⟨((k : Int) * wd + j).toNat, by omega⟩
          have hn1l : n1 < g.length := by omega
          have hn2l : n2 < g.length := by omega
          have F1 : Hid (IntKind.i64.wrap (my * mw) = my * mw) := Lib.hid (IntWalk.i64_in _ (by omega))
          have F2 : Hid (IntKind.i64.wrap (my * mw + mx) = n1) := Lib.hid (by rw [hn1]; exact IntWalk.i64_in _ (by omega))
          have F3 : Hid (IntKind.i64.wrap ((k : Int) * wd) = (k : Int) * wd) := Lib.hid (IntWalk.i64_in _ (by omega))
          have F4 : Hid (IntKind.i64.wrap ((k : Int) * wd + j) = n2) := Lib.hid (by rw [hn2]; exact IntWalk.i64_in _ (by omega))
          have HVA : Hid (g.getD n2 0 = hAt g wd ((j : Int), (k : Int))) := Lib.hid (by unfold hAt; simp only; rw [hn2]; rfl)
          have HIXN : Hid (ixN mw (mx, my) = n1) := Lib.hid (by unfold ixN; simp only; omega)
          obtain ⟨hv, hhv⟩ : ∃ x, hAt g wd ((j : Int), (k : Int)) = x := ⟨_, rfl⟩
          rw [hhv] at HST HVA
          clear hme hmw hhv HIX HIG i1 i2 i3 i4 i5 i6 i7 hn1 hn2
          go_wp2_with fail
          refine (HMI.out _).mono ?_
          rintro e w3 ⟨rfl, hb3⟩
          have HW3 := Lib.hid (hW2.out.keep hb3 hW2.out.1.size)
          clear hb3 q0 q1 q2
          go_wp2_with fail
          have HWY := Lib.hid (HW3.out.keep ((Below.refl _ w3).alloc (Nat.le_refl _) (.cells #[.int .i64 mx, .int .i64 my] 30)) HW3.out.1.size)
          have HQB : Hid ((w3.alloc (.cells #[.int .i64 mx, .int .i64 my] 30)).heap[w3.heap.size]? = some (.cells #[.int .i64 mx, .int .i64 my] 30 (0, 0))) := Lib.hid (heap_alloc_new _ _)
          obtain ⟨W4, hW4⟩ : ∃ X, w3.alloc (.cells #[.int .i64 mx, .int .i64 my] 30) = X := ⟨_, rfl⟩
          rw [hW4] at HWY HQB ⊢
          clear hW4
          have KA : Hid (∀ W', Below W4.heap.size W4 W' → W'.cell? ⟨w.heap.size, 0, none⟩ = some (.int .i64 wd) ∧ W'.cell? ⟨w.heap.size, 2, none⟩ = some (.slice (some ⟨gb, go, none⟩) g.length oc) ∧ W'.cell? ⟨R, 0, none⟩ = some (.int .i64 mw) ∧ W'.cell? ⟨R, 2, none⟩ = some (.slice (some ⟨nb, 0, none⟩) g.length gc) ∧ W'.cell? ⟨w3.heap.size, 0, none⟩ = some (.int .i64 mx) ∧ W'.cell? ⟨w3.heap.size, 1, none⟩ = some (.int .i64 my) ∧ W'.cell? ⟨gb, go + n2, none⟩ = some (.int .i64 hv)) := Lib.hid (fun W' hb => by
            have hk2 := HWY.out.keep hb HWY.out.1.size
            obtain ⟨x0, x1, x2⟩ := HRD.out W' hk2.1
            have m1 := hk2.2.2.2.2.1
            rw [HMWE.out] at m1
            have m2 := (hb.block _ (Array.getElem?_eq_some_iff.1 HQB.out).1).trans HQB.out
            refine ⟨x0, x2, cellH m1 0, cellH m1 2, cellH m2 0, cellH m2 1, ?_⟩
            rw [HCC.out W' (HB0.out.trans (hk2.1.mono HB0.out.size)) n2 hn2l, HVA.out])
          refine wp_region_turn 21 (fun _ w' => Below W4.heap.size W4 w') (by kernel_rfl) (by kernel_rfl) ((Below.refl _ W4).drew) ?_
          simp only [List.take_succ_cons, List.take_zero, List.drop_succ_cons, List.drop_zero]
          iterate 6
            (apply turnC_step (by rfl); (intro w' hw'; obtain ⟨y0, y1, y2, y3, y4, y5, y6⟩ := KA.out w' hw'; go_simp; first | exact ⟨hw', rfl⟩ | exact rfl))
            simp only [Act.put, List.setIfInBounds_toArray, List.set_cons_succ, List.set_cons_zero]
          (apply turnC_step (by rfl); (intro w' hw'; go_simp; first | exact congrArg (Value.int .i64) F1.out | exact rfl))
          simp only [Act.put, List.setIfInBounds_toArray, List.set_cons_succ, List.set_cons_zero]
          iterate 2
            (apply turnC_step (by rfl); (intro w' hw'; obtain ⟨y0, y1, y2, y3, y4, y5, y6⟩ := KA.out w' hw'; go_simp; first | exact ⟨hw', rfl⟩ | exact rfl))
            simp only [Act.put, List.setIfInBounds_toArray, List.set_cons_succ, List.set_cons_zero]
          (apply turnC_step (by rfl); (intro w' hw'; go_simp; first | exact congrArg (Value.int .i64) F2.out | exact rfl))
          simp only [Act.put, List.setIfInBounds_toArray, List.set_cons_succ, List.set_cons_zero]
          iterate 5
            (apply turnC_step (by rfl); (intro w' hw'; obtain ⟨y0, y1, y2, y3, y4, y5, y6⟩ := KA.out w' hw'; go_simp; first | exact ⟨hw', rfl⟩ | exact rfl))
            simp only [Act.put, List.setIfInBounds_toArray, List.set_cons_succ, List.set_cons_zero]
          (apply turnC_step (by rfl); (intro w' hw'; go_simp; first | exact congrArg (Value.int .i64) F3.out | exact rfl))
          simp only [Act.put, List.setIfInBounds_toArray, List.set_cons_succ, List.set_cons_zero]
          iterate 1
            (apply turnC_step (by rfl); (intro w' hw'; obtain ⟨y0, y1, y2, y3, y4, y5, y6⟩ := KA.out w' hw'; go_simp; first | exact ⟨hw', rfl⟩ | exact rfl))
            simp only [Act.put, List.setIfInBounds_toArray, List.set_cons_succ, List.set_cons_zero]
          (apply turnC_step (by rfl); (intro w' hw'; go_simp; first | exact congrArg (Value.int .i64) F4.out | exact rfl))
          simp only [Act.put, List.setIfInBounds_toArray, List.set_cons_succ, List.set_cons_zero]
          iterate 3
            (apply turnC_step (by rfl); (intro w' hw'; obtain ⟨y0, y1, y2, y3, y4, y5, y6⟩ := KA.out w' hw'; go_simp; first | exact ⟨hw', rfl⟩ | exact rfl))
            simp only [Act.put, List.setIfInBounds_toArray, List.set_cons_succ, List.set_cons_zero]
          intro listed w5 _ hw5
          have HW5 := Lib.hid (HWY.out.keep hw5 HWY.out.1.size)
          have HST2 : Hid (MirOk wd hg h g (g2.set n1 hv) ((j : Int) + 1) k) := Lib.hid (by have h9 := HST.out; rw [HMWE.out, HIXN.out] at h9; exact h9)
          have s0 := HW5.out.at hn1l
          have sf := HW5.out.free n1
          have HW6 := Lib.hid (HW5.out.set hn1l hv)
          clear hw5 KA
          go_wp2_with fail
          go_roundw
          case rel => exact ⟨j + 1, g2.set n1 hv, by omega, by go_num, Lib.hid (by have h9 := HST2.out; rw [show ((j + 1 : Nat) : Int) = (j : Int) + 1 from by omega]; exact h9), HW6⟩
          case measure => simp [intOf]; omega
        · have HJW : Hid ((j : Int) = wd) := Lib.hid (by omega)
          go_wp2_with fail
          go_roundw
          case rel => exact ⟨k + 1, g2, by omega, by go_num, Lib.hid (by have h9 := hO2.out; rw [HJW.out] at h9; rw [show ((k + 1 : Nat) : Int) = (k : Int) + 1 from by omega]; exact h9.row), hW2⟩
          case measure => simp [intOf]; omega
    · have HKE : Hid ((k : Int) = hg) := Lib.hid (by omega)
      obtain ⟨q0, q1, q2⟩ := HRD.out wr hW.out.1
      go_wp2_with fail
      clear q0 q1 q2
      obtain ⟨q1p, q2p, q3p, q4p⟩ := onB_ok HP.out
      have HMI := Lib.hid (fun w' => mirrored_any wd hg (.slice (some ⟨gb, go, none⟩) g.length oc) h (p1, p2) w' h0 ⟨a1, a2⟩ ⟨a3, a4⟩ (by simp only at q1p q2p q3p q4p ⊢; omega))
      clear q1p q2p q3p q4p
      have HOK : Hid (MirOk wd hg h g g1 0 hg) := Lib.hid (by have h9 := hO.out; rw [HKE.out] at h9; exact h9)
      obtain ⟨⟨mx, my⟩, hme⟩ : ∃ q, mirP wd hg h (p1, p2) = q := ⟨_, rfl⟩
      rw [hme] at HMI
      have HME := Lib.hid hme
      unfold mpV plV at HMI
      simp only at HMI
      have HCN : Hid (∀ w', Below wr.heap.size wr w' → Calls Try.prog 32 #[.agg #[.int .i64 wd, .int .i64 hg, .slice (some ⟨gb, go, none⟩) g.length oc], .int .u8 h, .agg #[.int .i64 p1, .int .i64 p2]] w' fun e w'' => e = .returned (.agg #[.int .i64 mx, .int .i64 my]) ∧ Below wr.heap.size wr w'') := Lib.hid (fun w' hb => (HMI.out w').mono fun e w'' ⟨he, hb'⟩ => ⟨he, hb.trans (hb'.mono hb.size)⟩)
      have KZ : Hid (∀ W', Below wr.heap.size wr W' → W'.cell? ⟨w.heap.size, 0, none⟩ = some (.int .i64 wd) ∧ W'.cell? ⟨w.heap.size, 1, none⟩ = some (.int .i64 hg) ∧ W'.cell? ⟨w.heap.size, 2, none⟩ = some (.slice (some ⟨gb, go, none⟩) g.length oc) ∧ W'.cell? ⟨R, 0, none⟩ = some (.int .i64 (mirW wd hg h)) ∧ W'.cell? ⟨R, 1, none⟩ = some (.int .i64 (mirW hg wd h)) ∧ W'.cell? ⟨R, 2, none⟩ = some (.slice (some ⟨nb, 0, none⟩) g.length gc) ∧ W'.cell? ⟨w.heap.size + 1, 0, none⟩ = some (.int .i64 p1) ∧ W'.cell? ⟨w.heap.size + 1, 1, none⟩ = some (.int .i64 p2)) := Lib.hid (fun W' hb => by
        have hk2 := hW.out.keep hb hW.out.1.size
        obtain ⟨x0, x1, x2⟩ := HRD.out W' hk2.1
        have m1 := hk2.2.2.2.2.1
        have m2 := (HA.out W' hk2.1).2.1
        exact ⟨x0, x1, x2, cellH m1 0, cellH m1 1, cellH m1 2, cellH m2 0, cellH m2 1⟩)
      clear hme HMI
      refine wp_region_turn 5 (fun _ w' => Below wr.heap.size wr w') (by kernel_rfl) (by kernel_rfl) ((Below.refl _ wr).drew) ?_
      simp only [List.take_succ_cons, List.take_zero, List.drop_succ_cons, List.drop_zero]
      iterate 5
        (first
          | (apply turnC_step (by rfl); (intro w' hw'; go_simp; exact HCN.out w' hw'))
          | (apply turnC_step (by rfl); (intro w' hw'; obtain ⟨y0, y1, y2, y3, y4, y5, y6, y7⟩ := KZ.out w' hw'; go_simp; first | exact ⟨hw', rfl⟩ | exact rfl)))
        simp only [Act.put, List.setIfInBounds_toArray, List.set_cons_succ, List.set_cons_zero]
      intro listed w5 _ hw5
      have HW5 := Lib.hid (hW.out.keep hw5 hW.out.1.size)
      obtain ⟨m0, m1, m2, m3, _, hb5⟩ := HA.out w5 HW5.out.1
      have t0 := cellH m2 0
      have t1 := cellH m2 1
      have t2 := cellH m2 2
      have tf := freeH m2
      have v0 := cellH m3 0
      have v1 := cellH m3 1
      have vf := freeH m3
      simp at t0 t1 t2 v0 v1
      have hS : Hid (∃ X, X = ((((w5.setCell ⟨w.heap.size + 2, 0, none⟩ (.int .i64 (mirW wd hg h))).setCell ⟨w.heap.size + 2, 1, none⟩ (.int .i64 (mirW hg wd h))).setCell ⟨w.heap.size + 2, 2, none⟩ (.slice (some ⟨nb, 0, none⟩) g.length gc)).setCell ⟨w.heap.size + 3, 0, none⟩ (.int .i64 mx)).setCell ⟨w.heap.size + 3, 1, none⟩ (.int .i64 my) ∧
          X.heap[w.heap.size + 2]? = some (.cells #[.int .i64 (mirW wd hg h), .int .i64 (mirW hg wd h), .slice (some ⟨nb, 0, none⟩) g.length gc] 24 (0, 0)) ∧ X.heap[w.heap.size + 3]? = some (.cells #[.int .i64 mx, .int .i64 my] 30 (0, 0)) ∧ Below w.heap.size w X ∧ INRow X (.slice (some ⟨nb, 0, none⟩) g.length gc) g1) := Lib.hid (by
        obtain ⟨z1, z2, z3, z4, z5, z6, cur, z7, z8⟩ := HW5.out
        have hs1 := HS1.out
        have hn2 : nb ≠ w.heap.size + 2 := by omega
        have hn3 : nb ≠ w.heap.size + 3 := by omega
        have e32 : w.heap.size + 3 ≠ w.heap.size + 2 := by omega
        have e23 : w.heap.size + 2 ≠ w.heap.size + 3 := by omega
        refine ⟨_, rfl, ?_, ?_, ?_, ?_⟩
        · rw [heap_other _ _ _ _ _ e23, heap_other _ _ _ _ _ e23]
          exact heap_same (heap_same (heap_same m2 0 _) 1 _) 2 _
        · exact heap_same (heap_same ((heap_other _ _ _ _ _ e32).trans ((heap_other _ _ _ _ _ e32).trans ((heap_other _ _ _ _ _ e32).trans m3))) 0 _) 1 _
        · exact ((((hb5.setCell (p := ⟨w.heap.size + 2, 0, none⟩) (by simp) _).setCell (p := ⟨w.heap.size + 2, 1, none⟩) (by simp) _).setCell (p := ⟨w.heap.size + 2, 2, none⟩) (by simp) _).setCell (p := ⟨w.heap.size + 3, 0, none⟩) (by simp) _).setCell (p := ⟨w.heap.size + 3, 1, none⟩) (by simp) _
        · have hc := (heap_other _ (w.heap.size + 3) 1 (.int .i64 my) _ hn3).trans ((heap_other _ (w.heap.size + 3) 0 (.int .i64 mx) _ hn3).trans ((heap_other _ (w.heap.size + 2) 2 (.slice (some ⟨nb, 0, none⟩) g.length gc) _ hn2).trans ((heap_other _ (w.heap.size + 2) 1 (.int .i64 (mirW hg wd h)) _ hn2).trans ((heap_other w5 (w.heap.size + 2) 0 (.int .i64 (mirW wd hg h)) _ hn2).trans z7))))
          refine .inr ⟨nb, 0, gc, by rw [z6], (Array.getElem?_eq_some_iff.1 hc).1, fun i hi => ?_⟩
          have hi2 : i < g.length := by omega
          have h9 := HW5.out.at hi2
          rw [cellH z7] at h9
          rw [Nat.zero_add, cellH hc]; exact h9)
      clear m0 m1 m2 m3 hb5 hw5 KZ HCN
      go_wp2_with fail
      obtain ⟨X, hX, hxA, hxB, hxb, hxr⟩ := hS.out
      subst hX
      refine bodyPost_ret (res_cells Try.results31 _ _ (w.heap.size + 2) (w.heap.size + 3) 24 30 #[.int .i64 (mirW wd hg h), .int .i64 (mirW hg wd h), .slice (some ⟨nb, 0, none⟩) g.length gc] #[.int .i64 mx, .int .i64 my] (0, 0) (0, 0) _ _ rfl hxA rfl hxB Try.underlying24 rfl (by kernel_rfl) Try.underlying30 rfl (by kernel_rfl)) rfl ?_
      exact ⟨_, g1, by rw [HME.out]; rfl, hxb, hxr, HOK.out⟩
end Go.Proofs.Ytjllkmekchmmbaa
