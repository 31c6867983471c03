/- The reference's far and near. -/
import Derived.Test.YtnacgogcbbpjmaaHP0
import Derived.Test.YtnacgogcbbpjmaaHM5
import Derived.Test.YtnacgogcbbpjmaaHP2
import Derived.Test.YtnacgogcbbpjmaaHL2
set_option linter.unusedVariables false
set_option linter.unusedSimpArgs false
namespace Go.Proofs.Ytnacgogcbbpjmaa
open Go Go.RowKit

set_option maxRecDepth 100000 in
set_option maxHeartbeats 8000000 in
theorem rfar_any (wd hg : Int) (o tv hv : Value) (H : List Hz) (tick : Int) (w : World) (hh : HzRow w hv H) (hhl : H.length ≤ 1000000) :
    Calls Try.prog 56 #[coV wd hg o tv hv, .int .i64 tick] w fun e w' => e = .returned (.int .i64 (faO H tick)) ∧ Below w.heap.size w w' := by
  obtain ⟨ha, hc, rfl, hcc⟩ := hh.form
  have HC := Lib.hid hcc
  obtain ⟨W1, hW1, hb0, hs1, hrd⟩ := co_reads w wd hg o tv (.slice ha H.length hc)
  have HW1 := Lib.hid hW1; have HB0 := Lib.hid hb0; have HRD := Lib.hid hrd
  clear hcc hh hW1 hb0 hs1 hrd
  unfold coV
  go_enter Try.func56, Try.ntmps56
  go_wp2_with fail
  rw [← HW1.out]
  go_loopw [5] (fun i wr => ∃ (k : Nat), k ≤ H.length ∧ i = .int .i64 k ∧ Hid (faO H tick = faO (H.drop k) tick) ∧ Hid (Below W1.heap.size W1 wr)) (fun i _ => H.length - (intOf i).toNat)
  case atStart => exact ⟨0, Nat.zero_le _, rfl, Lib.hid rfl, Lib.hid (Below.refl _ _)⟩
  case round =>
    obtain ⟨k, hk, rfl, hT, hB⟩ := hrel
    have HBR := Lib.hid (HB0.out.trans (hB.out.mono HB0.out.size))
    obtain ⟨p0, p1, p2, p3, p4⟩ := HRD.out wr hB.out
    by_cases hkl : k < H.length
    · obtain ⟨b, off, rfl, hb, c0, c1, c2⟩ := HC.out k hkl
      have hki : (k : Int) < H.length := by omega
      have hk0 : (0 : Int) ≤ k := by omega
      have e0 := (HBR.out.cell (p := ⟨b, _, none⟩) hb).trans c0
      have e1 := (HBR.out.cell (p := ⟨b, _, none⟩) hb).trans c1
      have e2 := (HBR.out.cell (p := ⟨b, _, none⟩) hb).trans c2
      have hD : Hid (faO (H.drop k) tick = if wiB tick (H.getD k .nil).fr (H.getD k .nil).to = true then (H.getD k .nil).far else faO (H.drop (k + 1)) tick) := Lib.hid (by rw [hdrop_at hkl]; rfl)
      obtain ⟨⟨lo, hi, fa⟩, hx⟩ : ∃ x, H.getD k .nil = x := ⟨_, rfl⟩
      rw [hx] at e0 e1 e2 hD
      simp only at e0 e1 e2 hD
      clear c0 c1 c2 hb hx
      by_cases q1 : lo ≤ tick
      · by_cases q2 : tick ≤ hi
        · have HN : Hid (faO H tick = fa) := Lib.hid (by rw [hT.out, hD.out, if_pos (by unfold wiB; simp [q1, q2])])
          go_wp2_with fail
          go_ret
          exact ⟨by rw [HN.out]; rfl, HBR.out⟩
        · have HN : Hid (faO H tick = faO (H.drop (k + 1)) tick) := Lib.hid (by rw [hT.out, hD.out, if_neg (by unfold wiB; simp [q1, q2])])
          have d1 : decide (lo ≤ tick) = true := decide_eq_true q1
          have d2 : decide (tick ≤ hi) = false := decide_eq_false q2
          go_wp2_with fail
          go_roundw
          case rel => exact ⟨k + 1, by omega, by go_num, HN, hB⟩
          case measure => simp [intOf]; omega
      · have HN : Hid (faO H tick = faO (H.drop (k + 1)) tick) := Lib.hid (by rw [hT.out, hD.out, if_neg (by unfold wiB; simp [q1])])
        have d1 : decide (lo ≤ tick) = false := decide_eq_false q1
        go_wp2_with fail
        go_roundw
        case rel => exact ⟨k + 1, by omega, by go_num, HN, hB⟩
        case measure => simp [intOf]; omega
    · obtain rfl : k = H.length := by omega
      have HN : Hid (faO H tick = 100) := Lib.hid (by rw [hT.out, List.drop_length]; rfl)
      go_wp2_with fail
      go_ret
      exact ⟨by rw [HN.out]; rfl, HBR.out⟩
end Go.Proofs.Ytnacgogcbbpjmaa

/-! The reference's near and in. -/
set_option linter.unusedVariables false
set_option linter.unusedSimpArgs false
namespace Go.Proofs.Ytnacgogcbbpjmaa
open Go Go.RowKit

theorem sq_swap (a b : Int) : (a - b) * (a - b) = (b - a) * (b - a) := by
  have e : a - b = -(b - a) := by omega
  rw [e]; exact Int.neg_mul_neg _ _
set_option maxRecDepth 100000 in
set_option maxHeartbeats 8000000 in
theorem rnear_any (tx ty x y far : Int) (w : World) (ha : (0 ≤ tx ∧ tx ≤ 49) ∧ 0 ≤ ty ∧ ty ≤ 49) (hb : (0 ≤ x ∧ x ≤ 49) ∧ 0 ≤ y ∧ y ≤ 49) (hfa : 0 ≤ far ∧ far ≤ 100) :
    Calls Try.prog 82 #[.agg #[.int .i64 tx, .int .i64 ty], .agg #[.int .i64 x, .int .i64 y], .int .i64 far] w fun e w' => e = .returned (.bool (nrB (tx, ty) (x, y) far)) ∧ Below w.heap.size w w' := by
  have hx := sq_bd (x := tx - x) (by omega) (by omega)
  have hy := sq_bd (x := ty - y) (by omega) (by omega)
  have hf : 0 ≤ far * far ∧ far * far ≤ 10000 := ⟨Int.mul_nonneg hfa.1 hfa.1, Int.mul_le_mul hfa.2 hfa.2 hfa.1 (by decide)⟩
  have w1 : wrap64 (tx - x) = tx - x := w64 (by omega)
  have w2 : wrap64 (ty - y) = ty - y := w64 (by omega)
  have w3 : wrap64 ((tx - x) * (tx - x)) = (tx - x) * (tx - x) := w64 (by omega)
  have w4 : wrap64 ((ty - y) * (ty - y)) = (ty - y) * (ty - y) := w64 (by omega)
  have w5 : wrap64 ((tx - x) * (tx - x) + (ty - y) * (ty - y)) = (tx - x) * (tx - x) + (ty - y) * (ty - y) := w64 (by omega)
  have w6 : wrap64 (far * far) = far * far := w64 (by omega)
  have HNR : Hid (nrB (tx, ty) (x, y) far = decide (wrap64 (wrap64 ((tx - x) * (tx - x)) + wrap64 ((ty - y) * (ty - y))) ≤ wrap64 (far * far))) := Lib.hid (by
    rw [w3, w4, w5, w6]; unfold nrB; simp only; rw [sq_swap x tx, sq_swap y ty])
  clear w3 w4 w5 w6 hx hy hf
  have HA : Hid (∀ W', Below ((w.alloc (.cells #[.int .i64 tx, .int .i64 ty] 32)).alloc (.cells #[.int .i64 x, .int .i64 y] 32)).heap.size ((w.alloc (.cells #[.int .i64 tx, .int .i64 ty] 32)).alloc (.cells #[.int .i64 x, .int .i64 y] 32)) W' → W'.cell? ⟨w.heap.size, 0, none⟩ = some (.int .i64 tx) ∧ W'.cell? ⟨w.heap.size, 1, none⟩ = some (.int .i64 ty) ∧ W'.cell? ⟨w.heap.size + 1, 0, none⟩ = some (.int .i64 x) ∧ W'.cell? ⟨w.heap.size + 1, 1, none⟩ = some (.int .i64 y) ∧ Below w.heap.size w W') := Lib.hid (fun W' h => by
    obtain ⟨a, b, _, d⟩ := two_cells w _ _ _ _ h
    exact ⟨cellH a 0, cellH a 1, cellH b 0, cellH b 1, d⟩)
  obtain ⟨Z, hZ⟩ : ∃ Z, (w.alloc (.cells #[.int .i64 tx, .int .i64 ty] 32)).alloc (.cells #[.int .i64 x, .int .i64 y] 32) = Z := ⟨_, rfl⟩
  rw [hZ] at HA
  have HZ := Lib.hid hZ
  clear hZ
  go_enter Try.func82, Try.ntmps82
  go_wp2_with fail
  rw [HZ.out]
  obtain ⟨q0, q1, q2, q3, hb0⟩ := HA.out Z (Below.refl _ _)
  have HB := Lib.hid hb0
  clear hb0
  go_wp2_with fail
  go_ret
  exact ⟨by rw [HNR.out]; rfl, HB.out⟩
set_option maxRecDepth 100000 in
set_option maxHeartbeats 8000000 in
theorem rin_any (wd hg : Int) (o : Value) (g : List Int) (ti tx ty th x y rise far : Int) (w : World) (hv : INRow w o g) (hm : vmB wd hg g = true) (ha : onB wd hg (tx, ty) = true) (hb : onB wd hg (x, y) = true) (hup : 0 ≤ th ∧ th ≤ 200) (hri : 0 ≤ rise ∧ rise ≤ 200) (hfa : 0 ≤ far ∧ far ≤ 100) :
    Calls Try.prog 55 #[.agg #[.int .i64 wd, .int .i64 hg, o], .agg #[.int .i64 ti, .int .i64 tx, .int .i64 ty, .int .i64 th], .agg #[.int .i64 x, .int .i64 y], .int .i64 rise, .int .i64 far] w fun e w' => e = .returned (.bool (seB g wd ⟨ti, tx, ty, th⟩ (x, y) rise far)) ∧ Below w.heap.size w w' := by
  have HFR := Lib.hid (fun w' (h : Below w.heap.size w w') => rsees_any wd hg o g ti tx ty th x y rise w' (hv.keep h) hm ha hb hup hri)
  obtain ⟨m1, m2, m3, m4, _, _⟩ := vmB_ok hm
  obtain ⟨k1, k2, k3, k4⟩ := onB_ok ha
  obtain ⟨k5, k6, k7, k8⟩ := onB_ok hb
  simp only at k1 k2 k3 k4 k5 k6 k7 k8
  have HNE := Lib.hid (fun w' => rnear_any tx ty x y far w' ⟨⟨by omega, by omega⟩, by omega, by omega⟩ ⟨⟨by omega, by omega⟩, by omega, by omega⟩ hfa)
  have HSE : Hid (seB g wd ⟨ti, tx, ty, th⟩ (x, y) rise far = (nrB (tx, ty) (x, y) far && freeB g wd (tx, ty) th (x, y) rise)) := Lib.hid rfl
  obtain ⟨oa, oc, rfl, _⟩ := hv.form
  clear hv hm ha hb hup hri hfa m1 m2 m3 m4 k1 k2 k3 k4 k5 k6 k7 k8
  obtain ⟨nb, hnb⟩ : ∃ b, nrB (tx, ty) (x, y) far = b := ⟨_, rfl⟩
  rw [hnb] at HNE HSE
  clear hnb
  have HRD : Hid (∀ W', Below (((w.alloc (.cells #[.int .i64 wd, .int .i64 hg, .slice oa g.length oc] 24)).alloc (.cells #[.int .i64 ti, .int .i64 tx, .int .i64 ty, .int .i64 th] 48)).alloc (.cells #[.int .i64 x, .int .i64 y] 32)).heap.size (((w.alloc (.cells #[.int .i64 wd, .int .i64 hg, .slice oa g.length oc] 24)).alloc (.cells #[.int .i64 ti, .int .i64 tx, .int .i64 ty, .int .i64 th] 48)).alloc (.cells #[.int .i64 x, .int .i64 y] 32)) W' → W'.cell? ⟨w.heap.size, 0, none⟩ = some (.int .i64 wd) ∧ W'.cell? ⟨w.heap.size, 1, none⟩ = some (.int .i64 hg) ∧ W'.cell? ⟨w.heap.size, 2, none⟩ = some (.slice oa g.length oc) ∧ W'.cell? ⟨w.heap.size + 1, 0, none⟩ = some (.int .i64 ti) ∧ W'.cell? ⟨w.heap.size + 1, 1, none⟩ = some (.int .i64 tx) ∧ W'.cell? ⟨w.heap.size + 1, 2, none⟩ = some (.int .i64 ty) ∧ W'.cell? ⟨w.heap.size + 1, 3, none⟩ = some (.int .i64 th) ∧ W'.cell? ⟨w.heap.size + 1 + 1, 0, none⟩ = some (.int .i64 x) ∧ W'.cell? ⟨w.heap.size + 1 + 1, 1, none⟩ = some (.int .i64 y) ∧ Below w.heap.size w W') := Lib.hid (fun W' h => by
    obtain ⟨a, b, c, _, d⟩ := three_cells w _ _ _ _ _ _ h
    exact ⟨cellH a 0, cellH a 1, cellH a 2, cellH b 0, cellH b 1, cellH b 2, cellH b 3, cellH c 0, cellH c 1, d⟩)
  obtain ⟨Z, hZ⟩ : ∃ Z, (((w.alloc (.cells #[.int .i64 wd, .int .i64 hg, .slice oa g.length oc] 24)).alloc (.cells #[.int .i64 ti, .int .i64 tx, .int .i64 ty, .int .i64 th] 48)).alloc (.cells #[.int .i64 x, .int .i64 y] 32)) = Z := ⟨_, rfl⟩
  rw [hZ] at HRD
  have HZ := Lib.hid hZ
  clear hZ
  go_enter Try.func55, Try.ntmps55
  go_wp2_with fail
  rw [HZ.out]
  obtain ⟨r0, r1, r2, q0, q1, q2, q3, q4, q5, hb0⟩ := HRD.out Z (Below.refl _ _)
  have HB := Lib.hid hb0
  clear hb0
  refine (HNE.out _).mono ?_
  rintro e w5 ⟨rfl, hb5⟩
  have HB5 := Lib.hid (HB.out.trans (hb5.mono HB.out.size))
  have HD5 := Lib.hid hb5
  clear hb5 r0 r1 r2 q0 q1 q2 q3 q4 q5
  cases nb
  · go_wp2_with fail
    go_ret
    exact ⟨by rw [HSE.out]; rfl, HB5.out⟩
  · obtain ⟨r0, r1, r2, q0, q1, q2, q3, q4, q5, _⟩ := HRD.out _ HD5.out
    go_wp2_with fail
    refine (HFR.out _ HB5.out).mono ?_
    rintro e w6 ⟨rfl, hb6⟩
    have HB6 := Lib.hid (HB5.out.trans (hb6.mono HB5.out.size))
    clear hb6 r0 r1 r2 q0 q1 q2 q3 q4 q5
    go_wp2_with fail
    go_ret
    exact ⟨by rw [HSE.out]; rfl, HB6.out⟩
end Go.Proofs.Ytnacgogcbbpjmaa

/-! The reference's minute and timed. -/
set_option linter.unusedVariables false
set_option linter.unusedSimpArgs false
namespace Go.Proofs.Ytnacgogcbbpjmaa
open Go Go.RowKit

theorem rminute_any (n : Int) (w : World) : Calls Try.prog 52 #[.int .i64 n] w fun e w' => e = .returned (.bool (wiB n 0 1048576)) ∧ w' = w := by
  unfold wiB
  by_cases h1 : 0 ≤ n
  · have d1 : decide (0 ≤ n) = true := decide_eq_true h1
    have d2 : decide (n ≥ 0) = true := decide_eq_true h1
    go_enter Try.func52, Try.ntmps52
    go_wp2_with fail
    go_ret
    exact ⟨by rw [d1]; simp, rfl⟩
  · have d1 : decide (0 ≤ n) = false := decide_eq_false h1
    have d2 : decide (n ≥ 0) = false := decide_eq_false h1
    go_enter Try.func52, Try.ntmps52
    go_wp2_with fail
    go_ret
    exact ⟨by first | rfl | (rw [d1]; simp), rfl⟩
set_option maxRecDepth 100000 in
set_option maxHeartbeats 8000000 in
theorem timed_any (wd hg : Int) (o tv hv : Value) (g : List Int) (T : List Tw) (H : List Hz) (rise tick : Int) (w : World) (ho : INRow w o g) (hl : g.length ≤ 9223372036854775807) (ht : TwRow w tv T) (htl : T.length ≤ 9223372036854775807) (hh : HzRow w hv H) (hhl : H.length ≤ 9223372036854775807) :
    Calls Try.prog 32 #[coV wd hg o tv hv, .int .i64 rise, .int .i64 tick] w fun e w' => e = .returned (.int .i64 (cvE wd hg g T H rise tick)) ∧ Below w.heap.size w w' := by
  have HC1 := Lib.hid (fun w' (h : Below w.heap.size w w') => rCheck_any wd hg o tv hv g T H w' (ho.keep h) hl (ht.keep h) htl (hh.keep h) hhl)
  have HVT := Lib.hid (rtall_any rise)
  have HVK := Lib.hid (rminute_any tick)
  have HBA : Hid (∀ ob, Below w.heap.size w (w.alloc ob)) := Lib.hid (fun ob => (Below.refl _ w).alloc (Nat.le_refl _) ob)
  clear ho ht hh hl htl hhl
  unfold cvE
  obtain ⟨E, hE⟩ : ∃ x, ckE wd hg g T H = x := ⟨_, rfl⟩
  rw [hE] at HC1 ⊢
  clear hE
  unfold coV at HC1
  unfold coV
  by_cases hE0 : E = 0
  · subst hE0
    rw [if_pos rfl]
    cases qr : wiB rise 0 200
    · rw [qr] at HVT
      clear qr
      go_enter Try.func32, Try.ntmps32
      go_wp2_with fail
      refine (HC1.out _ (HBA.out _)).mono ?_
      rintro e w2 ⟨rfl, hb2⟩
      have HB2 := Lib.hid ((HBA.out (.cells #[.int .i64 wd, .int .i64 hg, o, tv, hv] 28)).trans (hb2.mono (HBA.out _).size))
      clear hb2
      go_wp2_with fail
      refine (HVT.out _).mono ?_
      rintro e w3 ⟨rfl, rfl⟩
      go_wp2_with fail
      go_ret
      exact ⟨rfl, HB2.out⟩
    · rw [qr] at HVT
      clear qr
      cases qk : wiB tick 0 1048576
      all_goals
        rw [qk] at HVK
        clear qk
        go_enter Try.func32, Try.ntmps32
        go_wp2_with fail
        refine (HC1.out _ (HBA.out _)).mono ?_
        rintro e w2 ⟨rfl, hb2⟩
        have HB2 := Lib.hid ((HBA.out (.cells #[.int .i64 wd, .int .i64 hg, o, tv, hv] 28)).trans (hb2.mono (HBA.out _).size))
        clear hb2
        go_wp2_with fail
        refine (HVT.out _).mono ?_
        rintro e w3 ⟨rfl, rfl⟩
        go_wp2_with fail
        refine (HVK.out _).mono ?_
        rintro e w3 ⟨rfl, rfl⟩
        go_wp2_with fail
        go_ret
        exact ⟨rfl, HB2.out⟩
  · rw [if_neg hE0]
    have qe : (E == 0) = false := by simpa using hE0
    go_enter Try.func32, Try.ntmps32
    go_wp2_with fail
    refine (HC1.out _ (HBA.out _)).mono ?_
    rintro e w2 ⟨rfl, hb2⟩
    have HB2 := Lib.hid ((HBA.out (.cells #[.int .i64 wd, .int .i64 hg, o, tv, hv] 28)).trans (hb2.mono (HBA.out _).size))
    clear hb2
    go_wp2_with fail
    go_ret
    exact ⟨rfl, HB2.out⟩
end Go.Proofs.Ytnacgogcbbpjmaa
