/- farAt and sees of package ridge. -/
import Derived.Test.YtjllkmekchmmbaaHC1
import Derived.Test.YtjllkmekchmmbaaHL1
set_option linter.unusedVariables false
set_option linter.unusedSimpArgs false
namespace Go.Proofs.Ytjllkmekchmmbaa
open Go Go.RowKit

/-- How far an eye sees in a minute. -/
def faO : List Hz → Int → Int
  | [], _ => 100
  | h :: l, t => if wiB t h.fr h.to = true then h.far else faO l t
set_option maxRecDepth 100000 in
set_option maxHeartbeats 8000000 in
theorem farAt_any (wd hg : Int) (o tv hv : Value) (H : List Hz) (tick : Int) (w : World) (hh : HzRow w hv H) (hhl : H.length ≤ 1000000) :
    Calls Try.prog 68 #[coV wd hg o tv hv, .int .i64 tick] w fun e w' => e = .returned (.int .i64 (faO H tick)) ∧ Below w.heap.size w w' := by
  obtain ⟨ha, hc, rfl, hcc⟩ := hh.form
  have HC := Lib.hid hcc
  obtain ⟨W1, hW1, hb0, hs1, hrd⟩ := co_reads w wd hg o tv (.slice ha H.length hc)
  have HW1 := Lib.hid hW1; have HB0 := Lib.hid hb0; have HRD := Lib.hid hrd
  clear hcc hh hW1 hb0 hs1 hrd
  unfold coV
  go_enter Try.func68, Try.ntmps68
  go_wp2_with fail
  rw [← HW1.out]
  obtain ⟨p0, p1, p2, p3, p4⟩ := HRD.out W1 (Below.refl _ _)
  go_wp2_with fail
  clear p0 p1 p2 p3 p4
  go_loopw [10] (fun i wr => ∃ (k : Nat), k ≤ H.length ∧ i = .int .i64 k ∧ Hid (faO H tick = faO (H.drop k) tick) ∧ Hid (Below w.heap.size w wr)) (fun i _ => H.length - (intOf i).toNat)
  case atStart => exact ⟨0, Nat.zero_le _, rfl, Lib.hid rfl, HB0⟩
  case round =>
    obtain ⟨k, hk, rfl, hT, hB⟩ := hrel
    by_cases hkl : k < H.length
    · obtain ⟨b, off, rfl, hb, c0, c1, c2⟩ := HC.out k hkl
      have hki : (k : Int) < H.length := by omega
      have hk0 : (0 : Int) ≤ k := by omega
      have e0 := (hB.out.cell (p := ⟨b, _, none⟩) hb).trans c0
      have e1 := (hB.out.cell (p := ⟨b, _, none⟩) hb).trans c1
      have e2 := (hB.out.cell (p := ⟨b, _, none⟩) hb).trans c2
      have hD : Hid (faO (H.drop k) tick = if wiB tick (H.getD k .nil).fr (H.getD k .nil).to = true then (H.getD k .nil).far else faO (H.drop (k + 1)) tick) := Lib.hid (by rw [hdrop_at hkl]; rfl)
      obtain ⟨⟨lo, hi, fa⟩, hx⟩ : ∃ x, H.getD k .nil = x := ⟨_, rfl⟩
      rw [hx] at e0 e1 e2 hD
      simp only at e0 e1 e2 hD
      have HB1 : Hid (∀ o, Below w.heap.size w (wr.alloc o)) := Lib.hid fun o => hB.out.alloc hB.out.size o
      have HW1 := Lib.hid (within_any tick lo hi)
      clear c0 c1 c2 hb hx
      go_wp2_with fail
      refine (HW1.out _).mono ?_
      rintro e w1 ⟨rfl, rfl⟩
      cases q : wiB tick lo hi
      · rw [q] at hD
        have HN : Hid (faO H tick = faO (H.drop (k + 1)) tick) := Lib.hid (by rw [hT.out, hD.out]; simp)
        have HBX := Lib.hid (HB1.out)
        clear hD q
        go_wp2_with fail
        go_roundw
        case rel => exact ⟨k + 1, by omega, by go_num, HN, Lib.hid (HB1.out _)⟩
        case measure => simp [intOf]; omega
      · rw [q] at hD
        have HN : Hid (faO H tick = fa) := Lib.hid (by rw [hT.out, hD.out]; simp)
        clear hD q
        go_wp2_with fail
        go_ret
        exact ⟨by rw [HN.out]; rfl, HB1.out _⟩
    · obtain rfl : k = H.length := by omega
      have HN : Hid (faO H tick = 100) := Lib.hid (by rw [hT.out, List.drop_length]; rfl)
      go_wp2_with fail
      go_ret
      exact ⟨by rw [HN.out]; rfl, hB.out⟩
/-- A tower sees a place if an eye sees as far. -/
def nrB (a b : Pl) (far : Int) : Bool := decide ((b.1 - a.1) * (b.1 - a.1) + (b.2 - a.2) * (b.2 - a.2) ≤ far * far)
def seB (g : List Int) (wd : Int) (t : Tw) (p : Pl) (rise far : Int) : Bool := nrB (t.x, t.y) p far && freeB g wd (t.x, t.y) t.h p rise

theorem sq_bd {x : Int} (h1 : -49 ≤ x) (h2 : x ≤ 49) : 0 ≤ x * x ∧ x * x ≤ 2401 := by
  by_cases h : 0 ≤ x
  · exact ⟨Int.mul_nonneg h h, Int.mul_le_mul (show x ≤ 49 from h2) (show x ≤ 49 from h2) h (by decide)⟩
  · have e : x * x = (-x) * (-x) := (Int.neg_mul_neg x x).symm
    rw [e]
    exact ⟨Int.mul_nonneg (by omega) (by omega), Int.mul_le_mul (show -x ≤ 49 by omega) (show -x ≤ 49 by omega) (by omega) (by decide)⟩
set_option maxRecDepth 100000 in
set_option maxHeartbeats 8000000 in
theorem sees_any (wd hg : Int) (o : Value) (g : List Int) (ti tx ty th x y rise far : Int) (w : World) (hv : INRow w o g) (hm : vmB wd hg g = true) (ha : onB wd hg (tx, ty) = true) (hb : onB wd hg (x, y) = true) (hup : 0 ≤ th ∧ th ≤ 200) (hri : 0 ≤ rise ∧ rise ≤ 200) (hfa : 0 ≤ far ∧ far ≤ 100) :
    Calls Try.prog 69 #[.agg #[.int .i64 wd, .int .i64 hg, o], .agg #[.int .i64 ti, .int .i64 tx, .int .i64 ty, .int .i64 th], .agg #[.int .i64 x, .int .i64 y], .int .i64 rise, .int .i64 far] w fun e w' => e = .returned (.bool (seB g wd ⟨ti, tx, ty, th⟩ (x, y) rise far)) ∧ Below w.heap.size w w' := by
  have HFR := Lib.hid (fun w' (h : Below w.heap.size w w') => free_any wd hg o g (tx, ty) (x, y) th rise w' (hv.keep h) hm ha hb hup hri)
  unfold mpV plV at HFR
  obtain ⟨oa, oc, rfl, _⟩ := hv.form
  obtain ⟨m1, m2, m3, m4, _, _⟩ := vmB_ok hm
  obtain ⟨k1, k2, k3, k4⟩ := onB_ok ha
  obtain ⟨k5, k6, k7, k8⟩ := onB_ok hb
  simp only at k1 k2 k3 k4 k5 k6 k7 k8
  have hx := sq_bd (x := x - tx) (by omega) (by omega)
  have hy := sq_bd (x := y - ty) (by omega) (by omega)
  have hf : 0 ≤ far * far ∧ far * far ≤ 10000 := by
    constructor
    · exact Int.mul_nonneg hfa.1 hfa.1
    · exact Int.mul_le_mul hfa.2 hfa.2 hfa.1 (by decide)
  have w1 : wrap64 (x - tx) = x - tx := w64 (by omega)
  have w2 : wrap64 (y - ty) = y - ty := w64 (by omega)
  have w3 : wrap64 ((x - tx) * (x - tx)) = (x - tx) * (x - tx) := w64 (by omega)
  have w4 : wrap64 ((y - ty) * (y - ty)) = (y - ty) * (y - ty) := w64 (by omega)
  have w5 : wrap64 ((x - tx) * (x - tx) + (y - ty) * (y - ty)) = (x - tx) * (x - tx) + (y - ty) * (y - ty) := w64 (by omega)
  have w6 : wrap64 (far * far) = far * far := w64 (by omega)
  have HSE : Hid (∀ b : Bool, b = nrB (tx, ty) (x, y) far → seB g wd ⟨ti, tx, ty, th⟩ (x, y) rise far = (b && freeB g wd (tx, ty) th (x, y) rise)) := Lib.hid (fun b h => by rw [h]; rfl)
  unfold nrB at HSE
  simp only at HSE HFR
  clear hv hm ha hb hup hri hfa m1 m2 m3 m4 k1 k2 k3 k4 k5 k6 k7 k8
  have HLE : Hid (∀ b : Bool, decide ((x - tx) * (x - tx) + (y - ty) * (y - ty) ≤ far * far) = b → decide (wrap64 (wrap64 ((x - tx) * (x - tx)) + wrap64 ((y - ty) * (y - ty))) ≤ wrap64 (far * far)) = b) := Lib.hid (fun b h => by rw [w3, w4, w5, w6]; exact h)
  clear w3 w4 w5 w6 hx hy hf
  have HRD : Hid (∀ W', Below (((w.alloc (.cells #[.int .i64 wd, .int .i64 hg, .slice oa g.length oc] 24)).alloc (.cells #[.int .i64 ti, .int .i64 tx, .int .i64 ty, .int .i64 th] 73)).alloc (.cells #[.int .i64 x, .int .i64 y] 30)).heap.size (((w.alloc (.cells #[.int .i64 wd, .int .i64 hg, .slice oa g.length oc] 24)).alloc (.cells #[.int .i64 ti, .int .i64 tx, .int .i64 ty, .int .i64 th] 73)).alloc (.cells #[.int .i64 x, .int .i64 y] 30)) W' → W'.cell? ⟨w.heap.size, 0, none⟩ = some (.int .i64 wd) ∧ W'.cell? ⟨w.heap.size, 1, none⟩ = some (.int .i64 hg) ∧ W'.cell? ⟨w.heap.size, 2, none⟩ = some (.slice oa g.length oc) ∧ W'.cell? ⟨w.heap.size + 1, 0, none⟩ = some (.int .i64 ti) ∧ W'.cell? ⟨w.heap.size + 1, 1, none⟩ = some (.int .i64 tx) ∧ W'.cell? ⟨w.heap.size + 1, 2, none⟩ = some (.int .i64 ty) ∧ W'.cell? ⟨w.heap.size + 1, 3, none⟩ = some (.int .i64 th) ∧ W'.cell? ⟨w.heap.size + 1 + 1, 0, none⟩ = some (.int .i64 x) ∧ W'.cell? ⟨w.heap.size + 1 + 1, 1, none⟩ = some (.int .i64 y) ∧ Below w.heap.size w W') := Lib.hid (fun W' h => by
    obtain ⟨a, b, c, _, d⟩ := three_cells w _ _ _ _ _ _ h
    exact ⟨cellH a 0, cellH a 1, cellH a 2, cellH b 0, cellH b 1, cellH b 2, cellH b 3, cellH c 0, cellH c 1, d⟩)
  obtain ⟨Z, hZ⟩ : ∃ Z, (((w.alloc (.cells #[.int .i64 wd, .int .i64 hg, .slice oa g.length oc] 24)).alloc (.cells #[.int .i64 ti, .int .i64 tx, .int .i64 ty, .int .i64 th] 73)).alloc (.cells #[.int .i64 x, .int .i64 y] 30)) = Z := ⟨_, rfl⟩
  rw [hZ] at HRD
  have HZ := Lib.hid hZ
  clear hZ
  go_enter Try.func69, Try.ntmps69
  go_wp2_with fail
  rw [HZ.out]
  refine wp_region_turn 13 (fun _ w' => Below Z.heap.size Z w') (by kernel_rfl) (by kernel_rfl) ((Below.refl _ Z).drew) ?_
  simp only [List.take_succ_cons, List.take_zero, List.drop_succ_cons, List.drop_zero]
  iterate 13
    (apply turnC_step (by rfl); (intro w' hw'; obtain ⟨r0, r1, r2, q0, q1, q2, q3, q4, q5, _⟩ := HRD.out w' hw'; go_simp; first | exact ⟨hw', rfl⟩ | exact rfl))
    simp only [Act.put, List.setIfInBounds_toArray, List.set_cons_succ, List.set_cons_zero]
  intro listed w5 _ hw5
  have HD5 := Lib.hid hw5
  obtain ⟨r0, r1, r2, q0, q1, q2, q3, q4, q5, hb5⟩ := HRD.out w5 hw5
  have HB5 := Lib.hid hb5
  clear hw5 hb5
  rcases Bool.eq_false_or_eq_true (decide ((x - tx) * (x - tx) + (y - ty) * (y - ty) ≤ far * far)) with hle | hle
  · have qle := HLE.out _ hle
    have hS := HSE.out true hle.symm
    have HS := Lib.hid hS
    clear hS hle
    go_wp2_with fail
    refine (HFR.out _ HB5.out).mono ?_
    rintro e w6 ⟨rfl, hb6⟩
    have HB6 := Lib.hid (HB5.out.trans (hb6.mono HB5.out.size))
    clear hb6 r0 r1 r2 q0 q1 q2 q3 q4 q5
    go_wp2_with fail
    go_ret
    exact ⟨by rw [HS.out]; rfl, HB6.out⟩
  · have qle := HLE.out _ hle
    have hS := HSE.out false hle.symm
    have HS := Lib.hid hS
    clear hS hle
    go_wp2_with fail
    go_ret
    exact ⟨by rw [HS.out]; rfl, HB5.out⟩

end Go.Proofs.Ytjllkmekchmmbaa
