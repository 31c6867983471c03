/- Far and Sees of both packages. -/
import Derived.Test.YtnacgogcbbpjmaaGreatHM1
import Derived.Test.YtnacgogcbbpjmaaGreatHM5
import Derived.Test.YtnacgogcbbpjmaaGreatHR0
set_option linter.unusedVariables false
set_option linter.unusedSimpArgs false
namespace Go.Proofs.YtnacgogcbbpjmaaGreat
open Go Go.RowKit

def feE (wd hg : Int) (g : List Int) (T : List Tw) (H : List Hz) (tick : Int) : Int := if ckE wd hg g T H = 0 then (if wiB tick 0 1048576 = true then 0 else 1) else ckE wd hg g T H
def feN (wd hg : Int) (g : List Int) (T : List Tw) (H : List Hz) (tick : Int) : Int := if ckE wd hg g T H = 0 then (if wiB tick 0 1048576 = true then faO H tick else 0) else 0
set_option maxRecDepth 100000 in
set_option maxHeartbeats 8000000 in
theorem Far_any (wd hg : Int) (o tv hv : Value) (g : List Int) (T : List Tw) (H : List Hz) (tick : Int) (w : World) (ho : INRow w o g) (hl : g.length ≤ 9223372036854775807) (ht : TwRow w tv T) (htl : T.length ≤ 9223372036854775807) (hh : HzRow w hv H) (hhl : H.length ≤ 9223372036854775807) :
    Calls Tryz.prog 7 #[coV wd hg o tv hv, .int .i64 tick] w fun e w' => e = .returned (.tuple #[.int .i64 (feN wd hg g T H tick), .int .i64 (feE wd hg g T H tick)]) ∧ Below w.heap.size w w' := by
  have HC1 := Lib.hid (fun w' (h : Below w.heap.size w w') => Check_any wd hg o tv hv g T H w' (ho.keep h) hl (ht.keep h) htl (hh.keep h) hhl)
  have HVK := Lib.hid (validTick_any tick)
  have HFA := Lib.hid (fun (hck : ckE wd hg g T H = 0) w' (h : Below w.heap.size w w') => farAt_any wd hg o tv hv H tick w' (hh.keep h) (by obtain ⟨_, _, h, _⟩ := ckE_ok hck; omega))
  obtain ⟨W1, hW1, hb0, hs1, hrd⟩ := co_reads w wd hg o tv hv
  have HW1 := Lib.hid hW1; have HB0 := Lib.hid hb0; have HRD := Lib.hid hrd
  clear hW1 hb0 hs1 hrd ho ht hh hl htl hhl
  unfold feE feN
  obtain ⟨E, hE⟩ : ∃ x, ckE wd hg g T H = x := ⟨_, rfl⟩
  rw [hE] at HC1 HFA ⊢
  obtain ⟨kb, hk⟩ : ∃ x, wiB tick 0 1048576 = x := ⟨_, rfl⟩
  rw [hk] at HVK ⊢
  obtain ⟨fa, hf⟩ : ∃ x, faO H tick = x := ⟨_, rfl⟩
  rw [hf] at HFA ⊢
  clear hE hk hf
  unfold coV at HC1 HFA
  unfold coV
  go_enter Tryz.func7, Tryz.ntmps7
  go_wp2_with fail
  rw [← HW1.out]
  obtain ⟨q0, q1, q2, q3, q4⟩ := HRD.out W1 (Below.refl _ _)
  go_wp2_with fail
  refine (HC1.out _ HB0.out).mono ?_
  rintro e w2 ⟨rfl, hb2⟩
  have HD2 := Lib.hid hb2
  have HB2 := Lib.hid (HB0.out.trans (hb2.mono HB0.out.size))
  clear hb2 q0 q1 q2 q3 q4
  by_cases hE0 : E = 0
  · subst hE0
    go_wp2_with fail
    refine (HVK.out _).mono ?_
    rintro e w3 ⟨rfl, rfl⟩
    cases kb
    · go_wp2_with fail
      go_ret2
      exact ⟨rfl, HB2.out⟩
    · obtain ⟨q0, q1, q2, q3, q4⟩ := HRD.out _ HD2.out
      go_wp2_with fail
      refine (HFA.out (by trivial) _ HB2.out).mono ?_
      rintro e w4 ⟨rfl, hb4⟩
      have HB4 := Lib.hid (HB2.out.trans (hb4.mono HB2.out.size))
      clear hb4 q0 q1 q2 q3 q4
      go_wp2_with fail
      go_ret2
      exact ⟨rfl, HB4.out⟩
  · have qe : (E != 0) = true := by simpa using hE0
    have HE0 := Lib.hid hE0
    clear hE0
    go_wp2_with fail
    go_ret2
    exact ⟨by first | rfl | rw [if_neg HE0.out, if_neg HE0.out], HB2.out⟩
set_option maxRecDepth 100000 in
set_option maxHeartbeats 8000000 in
theorem rFar_any (wd hg : Int) (o tv hv : Value) (g : List Int) (T : List Tw) (H : List Hz) (tick : Int) (w : World) (ho : INRow w o g) (hl : g.length ≤ 9223372036854775807) (ht : TwRow w tv T) (htl : T.length ≤ 9223372036854775807) (hh : HzRow w hv H) (hhl : H.length ≤ 9223372036854775807) :
    Calls Tryz.prog 8 #[coV wd hg o tv hv, .int .i64 tick] w fun e w' => e = .returned (.tuple #[.int .i64 (feN wd hg g T H tick), .int .i64 (feE wd hg g T H tick)]) ∧ Below w.heap.size w w' := by
  have HC1 := Lib.hid (fun w' (h : Below w.heap.size w w') => rCheck_any wd hg o tv hv g T H w' (ho.keep h) hl (ht.keep h) htl (hh.keep h) hhl)
  have HVK := Lib.hid (rminute_any tick)
  have HFA := Lib.hid (fun (hck : ckE wd hg g T H = 0) w' (h : Below w.heap.size w w') => rfar_any wd hg o tv hv H tick w' (hh.keep h) (by obtain ⟨_, _, h, _⟩ := ckE_ok hck; omega))
  obtain ⟨W1, hW1, hb0, hs1, hrd⟩ := co_reads w wd hg o tv hv
  have HW1 := Lib.hid hW1; have HB0 := Lib.hid hb0; have HRD := Lib.hid hrd
  clear hW1 hb0 hs1 hrd ho ht hh hl htl hhl
  unfold feE feN
  obtain ⟨E, hE⟩ : ∃ x, ckE wd hg g T H = x := ⟨_, rfl⟩
  rw [hE] at HC1 HFA ⊢
  obtain ⟨kb, hk⟩ : ∃ x, wiB tick 0 1048576 = x := ⟨_, rfl⟩
  rw [hk] at HVK ⊢
  obtain ⟨fa, hf⟩ : ∃ x, faO H tick = x := ⟨_, rfl⟩
  rw [hf] at HFA ⊢
  clear hE hk hf
  unfold coV at HC1 HFA
  unfold coV
  go_enter Tryz.func8, Tryz.ntmps8
  go_wp2_with fail
  rw [← HW1.out]
  obtain ⟨q0, q1, q2, q3, q4⟩ := HRD.out W1 (Below.refl _ _)
  go_wp2_with fail
  refine (HC1.out _ HB0.out).mono ?_
  rintro e w2 ⟨rfl, hb2⟩
  have HD2 := Lib.hid hb2
  have HB2 := Lib.hid (HB0.out.trans (hb2.mono HB0.out.size))
  clear hb2 q0 q1 q2 q3 q4
  by_cases hE0 : E = 0
  · subst hE0
    go_wp2_with fail
    refine (HVK.out _).mono ?_
    rintro e w3 ⟨rfl, rfl⟩
    cases kb
    · go_wp2_with fail
      go_ret2
      exact ⟨rfl, HB2.out⟩
    · obtain ⟨q0, q1, q2, q3, q4⟩ := HRD.out _ HD2.out
      go_wp2_with fail
      refine (HFA.out (by trivial) _ HB2.out).mono ?_
      rintro e w4 ⟨rfl, hb4⟩
      have HB4 := Lib.hid (HB2.out.trans (hb4.mono HB2.out.size))
      clear hb4 q0 q1 q2 q3 q4
      go_wp2_with fail
      go_ret2
      exact ⟨rfl, HB4.out⟩
  · have qe : (E != 0) = true := by simpa using hE0
    have HE0 := Lib.hid hE0
    clear hE0
    go_wp2_with fail
    go_ret2
    exact ⟨by first | rfl | rw [if_neg HE0.out, if_neg HE0.out], HB2.out⟩
def wsE (wd hg : Int) (g : List Int) (T : List Tw) (H : List Hz) (id : Int) (p : Pl) (rise tick : Int) : Int := if ctE wd hg g T H id = 0 then (if (onB wd hg p && wiB rise 0 200 && wiB tick 0 1048576) = true then 0 else 1) else ctE wd hg g T H id
def wsB (wd hg : Int) (g : List Int) (T : List Tw) (H : List Hz) (id : Int) (p : Pl) (rise tick : Int) : Bool := if ctE wd hg g T H id = 0 then (if (onB wd hg p && wiB rise 0 200 && wiB tick 0 1048576) = true then seB g wd (ctT wd hg g T H id) p rise (faO H tick) else false) else false
theorem ctE_twI (wd hg : Int) (g : List Int) (T : List Tw) (H : List Hz) (id : Int) : ctE wd hg g T H id = if ckE wd hg g T H = 0 then (if 0 ≤ twI T id then 0 else 5) else ckE wd hg g T H := by
  unfold ctE
  rw [twF_full]
  by_cases h : ckE wd hg g T H = 0
  · rw [if_pos h, if_pos h]
    by_cases h2 : 0 ≤ twI T id
    · rw [if_pos h2, if_pos h2]; rfl
    · rw [if_neg h2, if_neg h2]; rfl
  · rw [if_neg h, if_neg h]
theorem wi_rise {rise : Int} (h : wiB rise 0 200 = true) : 0 ≤ rise ∧ rise ≤ 200 := by unfold wiB at h; simpa using h
theorem okT_h {wd hg : Int} {t : Tw} (h : okT wd hg t) : 0 ≤ t.h ∧ t.h ≤ 200 := by
  have h2 := h.2.2
  unfold wiB at h2
  simpa using h2
set_option maxRecDepth 100000 in
set_option maxHeartbeats 8000000 in
theorem Sees_any (wd hg : Int) (o tv hv : Value) (g : List Int) (T : List Tw) (H : List Hz) (id x y rise tick : Int) (w : World) (ho : INRow w o g) (hl : g.length ≤ 9223372036854775807) (ht : TwRow w tv T) (htl : T.length ≤ 9223372036854775807) (hh : HzRow w hv H) (hhl : H.length ≤ 9223372036854775807) :
    Calls Tryz.prog 9 #[coV wd hg o tv hv, .int .i64 id, .agg #[.int .i64 x, .int .i64 y], .int .i64 rise, .int .i64 tick] w fun e w' => e = .returned (.tuple #[.bool (wsB wd hg g T H id (x, y) rise tick), .int .i64 (wsE wd hg g T H id (x, y) rise tick)]) ∧ Below w.heap.size w w' := by
  have HC1 := Lib.hid (fun w' (h : Below w.heap.size w w') => checkTower_any wd hg o tv hv g T H id w' (ho.keep h) hl (ht.keep h) htl (hh.keep h) hhl)
  have HON := Lib.hid (fun w' => On_any wd hg o (x, y) w')
  have HVT := Lib.hid (validTall_any rise)
  have HVK := Lib.hid (validTick_any tick)
  have HFA := Lib.hid (fun (hE : ctE wd hg g T H id = 0) w' (h : Below w.heap.size w w') => farAt_any wd hg o tv hv H tick w' (hh.keep h) (by obtain ⟨_, _, h, _⟩ := ckE_ok (ct_ok hE).1; omega))
  have HSE : Hid (ctE wd hg g T H id = 0 → onB wd hg (x, y) = true → wiB rise 0 200 = true → ∀ w', Below w.heap.size w w' → Calls Tryz.prog 37 #[.agg #[.int .i64 wd, .int .i64 hg, o], .agg #[.int .i64 (ctT wd hg g T H id).id, .int .i64 (ctT wd hg g T H id).x, .int .i64 (ctT wd hg g T H id).y, .int .i64 (ctT wd hg g T H id).h], .agg #[.int .i64 x, .int .i64 y], .int .i64 rise, .int .i64 (faO H tick)] w' fun e w'' => e = .returned (.bool (seB g wd (ctT wd hg g T H id) (x, y) rise (faO H tick))) ∧ Below w'.heap.size w' w'') := Lib.hid (fun hE hon hri w' h => by
    obtain ⟨hck, t, htm, hte, _⟩ := ct_ok hE
    obtain ⟨hm, _, _, hok, _, hhz⟩ := ckE_ok hck
    rw [hte]
    have hot := hok t htm
    exact sees_any wd hg o g t.id t.x t.y t.h x y rise _ w' (ho.keep h) hm hot.2.1 hon (okT_h hot) (wi_rise hri) (faO_bd hhz))
  obtain ⟨oa, oc, rfl, _⟩ := ho.form
  clear ho ht hh hl htl hhl
  unfold wsE wsB
  unfold mpV plV at HON
  simp only at HON
  obtain ⟨⟨ti, tx, ty, th⟩, htt⟩ : ∃ z, ctT wd hg g T H id = z := ⟨_, rfl⟩
  rw [htt] at HC1 HSE ⊢
  obtain ⟨E, hE⟩ : ∃ z, ctE wd hg g T H id = z := ⟨_, rfl⟩
  rw [hE] at HC1 HFA HSE ⊢
  obtain ⟨ob, hob⟩ : ∃ z, onB wd hg (x, y) = z := ⟨_, rfl⟩
  rw [hob] at HON HSE ⊢
  obtain ⟨rb, hrb⟩ : ∃ z, wiB rise 0 200 = z := ⟨_, rfl⟩
  rw [hrb] at HVT HSE ⊢
  obtain ⟨kb, hk⟩ : ∃ z, wiB tick 0 1048576 = z := ⟨_, rfl⟩
  rw [hk] at HVK ⊢
  obtain ⟨fa, hf⟩ : ∃ z, faO H tick = z := ⟨_, rfl⟩
  rw [hf] at HFA HSE ⊢
  obtain ⟨sb, hsb⟩ : ∃ z, seB g wd ⟨ti, tx, ty, th⟩ (x, y) rise fa = z := ⟨_, rfl⟩
  rw [hsb] at HSE ⊢
  clear htt hE hob hrb hk hf hsb
  simp only at HC1 HSE
  have HA : Hid (∀ W', Below ((w.alloc (.cells #[.int .i64 wd, .int .i64 hg, .slice oa g.length oc, tv, hv] 28)).alloc (.cells #[.int .i64 x, .int .i64 y] 30)).heap.size ((w.alloc (.cells #[.int .i64 wd, .int .i64 hg, .slice oa g.length oc, tv, hv] 28)).alloc (.cells #[.int .i64 x, .int .i64 y] 30)) W' → W'.cell? ⟨w.heap.size, 0, none⟩ = some (.int .i64 wd) ∧ W'.cell? ⟨w.heap.size, 1, none⟩ = some (.int .i64 hg) ∧ W'.cell? ⟨w.heap.size, 2, none⟩ = some (.slice oa g.length oc) ∧ W'.cell? ⟨w.heap.size, 3, none⟩ = some tv ∧ W'.cell? ⟨w.heap.size, 4, none⟩ = some hv ∧ W'.cell? ⟨w.heap.size + 1, 0, none⟩ = some (.int .i64 x) ∧ W'.cell? ⟨w.heap.size + 1, 1, none⟩ = some (.int .i64 y) ∧ Below w.heap.size w W') := Lib.hid (fun W' h => by
    obtain ⟨a, b, _, d⟩ := two_cells w _ _ _ _ h
    exact ⟨cellH a 0, cellH a 1, cellH a 2, cellH a 3, cellH a 4, cellH b 0, cellH b 1, d⟩)
  obtain ⟨W1, hW1⟩ : ∃ X, (w.alloc (.cells #[.int .i64 wd, .int .i64 hg, .slice oa g.length oc, tv, hv] 28)).alloc (.cells #[.int .i64 x, .int .i64 y] 30) = X := ⟨_, rfl⟩
  rw [hW1] at HA
  have HW1 := Lib.hid hW1
  have HRD := HA
  have HB0 := Lib.hid (HA.out W1 (Below.refl _ _)).2.2.2.2.2.2.2
  clear hW1 HA
  unfold coV at HC1 HFA
  unfold coV
  go_enter Tryz.func9, Tryz.ntmps9
  go_wp2_with fail
  rw [HW1.out]
  obtain ⟨q0, q1, q2, q3, q4, q5, q6, _⟩ := HRD.out W1 (Below.refl _ _)
  go_wp2_with fail
  refine (HC1.out _ HB0.out).mono ?_
  rintro e w2 ⟨rfl, hb2⟩
  have HD2 := Lib.hid hb2
  have HB2 := Lib.hid (HB0.out.trans (hb2.mono HB0.out.size))
  have HYB := Lib.hid (hb2.alloc hb2.size (.cells #[.int .i64 ti, .int .i64 tx, .int .i64 ty, .int .i64 th] 67))
  have HYR : Hid ((w2.alloc (.cells #[.int .i64 ti, .int .i64 tx, .int .i64 ty, .int .i64 th] 67)).heap[w2.heap.size]? = some (.cells #[.int .i64 ti, .int .i64 tx, .int .i64 ty, .int .i64 th] 67 (0, 0))) := Lib.hid (heap_alloc_new _ _)
  have HB3 := Lib.hid (HB0.out.trans (HYB.out.mono HB0.out.size))
  clear hb2 q0 q1 q2 q3 q4 q5 q6
  by_cases hE0 : E = 0
  case neg =>
    have qe : (E != 0) = true := by simpa using hE0
    have HE0 := Lib.hid hE0
    clear hE0
    go_wp2_with fail
    go_ret2
    exact ⟨by first | rfl | rw [if_neg HE0.out, if_neg HE0.out], HB3.out⟩
  subst hE0
  obtain ⟨q0, q1, q2, q3, q4, q5, q6, _⟩ := HRD.out _ HYB.out
  go_wp2_with fail
  obtain ⟨W3, hW3⟩ : ∃ X, w2.alloc (.cells #[.int .i64 ti, .int .i64 tx, .int .i64 ty, .int .i64 th] 67) = X := ⟨_, rfl⟩
  rw [hW3] at HYB HYR HB3 q0 q1 q2 q3 q4 q5 q6 ⊢
  obtain ⟨s2, hs2⟩ : ∃ s, w2.heap.size = s := ⟨_, rfl⟩
  rw [hs2] at HYR ⊢
  clear hW3 hs2 q0 q1 q2 q3 q4 q5 q6
  refine (HON.out _).mono ?_
  rintro e w4 ⟨rfl, hb4⟩
  have HD4 := Lib.hid (HYB.out.trans (hb4.mono HYB.out.size))
  have HB4 := Lib.hid (HB3.out.trans (hb4.mono HB3.out.size))
  have HT4 := Lib.hid ((hb4.block _ (Array.getElem?_eq_some_iff.1 HYR.out).1).trans HYR.out)
  clear hb4
  cases ob
  · go_wp2_with fail
    go_ret2
    exact ⟨rfl, HB4.out⟩
  go_wp2_with fail
  refine (HVT.out _).mono ?_
  rintro e w5 ⟨rfl, rfl⟩
  cases rb
  · go_wp2_with fail
    go_ret2
    exact ⟨rfl, HB4.out⟩
  go_wp2_with fail
  refine (HVK.out _).mono ?_
  rintro e w6 ⟨rfl, rfl⟩
  cases kb
  · go_wp2_with fail
    go_ret2
    exact ⟨rfl, HB4.out⟩
  have KA : Hid (∀ W', Below w6.heap.size w6 W' → W'.cell? ⟨w.heap.size, 0, none⟩ = some (.int .i64 wd) ∧ W'.cell? ⟨w.heap.size, 1, none⟩ = some (.int .i64 hg) ∧ W'.cell? ⟨w.heap.size, 2, none⟩ = some (.slice oa g.length oc) ∧ W'.cell? ⟨w.heap.size, 3, none⟩ = some tv ∧ W'.cell? ⟨w.heap.size, 4, none⟩ = some hv ∧ W'.cell? ⟨w.heap.size + 1, 0, none⟩ = some (.int .i64 x) ∧ W'.cell? ⟨w.heap.size + 1, 1, none⟩ = some (.int .i64 y) ∧ W'.cell? ⟨s2, 0, none⟩ = some (.int .i64 ti) ∧ W'.cell? ⟨s2, 1, none⟩ = some (.int .i64 tx) ∧ W'.cell? ⟨s2, 2, none⟩ = some (.int .i64 ty) ∧ W'.cell? ⟨s2, 3, none⟩ = some (.int .i64 th)) := Lib.hid (fun W' h => by
    obtain ⟨z0, z1, z2, z3, z4, z5, z6, _⟩ := HRD.out W' (HD4.out.trans (h.mono HD4.out.size))
    have m := (h.block _ (Array.getElem?_eq_some_iff.1 HT4.out).1).trans HT4.out
    exact ⟨z0, z1, z2, z3, z4, z5, z6, cellH m 0, cellH m 1, cellH m 2, cellH m 3⟩)
  have CF : Hid (∀ w', Below w6.heap.size w6 w' → Calls Tryz.prog 30 #[.agg #[.int .i64 wd, .int .i64 hg, .slice oa g.length oc, tv, hv], .int .i64 tick] w' fun e w'' => e = .returned (.int .i64 fa) ∧ Below w6.heap.size w6 w'') := Lib.hid (fun w' h => (HFA.out (by trivial) w' (HB4.out.trans (h.mono HB4.out.size))).mono fun e w'' ⟨he, hh⟩ => ⟨he, h.trans (hh.mono h.size)⟩)
  have CI : Hid (∀ w', Below w6.heap.size w6 w' → Calls Tryz.prog 37 #[.agg #[.int .i64 wd, .int .i64 hg, .slice oa g.length oc], .agg #[.int .i64 ti, .int .i64 tx, .int .i64 ty, .int .i64 th], .agg #[.int .i64 x, .int .i64 y], .int .i64 rise, .int .i64 fa] w' fun e w'' => e = .returned (.bool sb) ∧ Below w6.heap.size w6 w'') := Lib.hid (fun w' h => (HSE.out (by trivial) (by trivial) (by trivial) w' (HB4.out.trans (h.mono HB4.out.size))).mono fun e w'' ⟨he, hh⟩ => ⟨he, h.trans (hh.mono h.size)⟩)
  go_wp2_with fail
  refine wp_region_turn 9 (fun _ w' => Below w6.heap.size w6 w') (by kernel_rfl) (by kernel_rfl) ((Below.refl _ w6).drew) ?_
  simp only [List.take_succ_cons, List.take_zero, List.drop_succ_cons, List.drop_zero]
  iterate 9
    (first
      | (apply turnC_step (by rfl); (intro w' hw'; go_simp; exact CF.out w' hw'))
      | (apply turnC_step (by rfl); (intro w' hw'; go_simp; exact CI.out w' hw'))
      | (apply turnC_step (by rfl); (intro w' hw'; obtain ⟨y0, y1, y2, y3, y4, y5, y6, y7, y8, y9, y10⟩ := KA.out w' hw'; go_simp; first | exact ⟨hw', rfl⟩ | exact rfl)))
    simp only [Act.put, List.setIfInBounds_toArray, List.set_cons_succ, List.set_cons_zero]
  intro listed w7 _ hw7
  have HB7 := Lib.hid (HB4.out.trans (hw7.mono HB4.out.size))
  clear hw7 KA CF CI
  go_wp2_with fail
  go_ret2
  exact ⟨rfl, HB7.out⟩
set_option maxRecDepth 100000 in
set_option maxHeartbeats 8000000 in
theorem rSees_any (wd hg : Int) (o tv hv : Value) (g : List Int) (T : List Tw) (H : List Hz) (id x y rise tick : Int) (w : World) (ho : INRow w o g) (hl : g.length ≤ 9223372036854775807) (ht : TwRow w tv T) (htl : T.length ≤ 9223372036854775807) (hh : HzRow w hv H) (hhl : H.length ≤ 9223372036854775807) :
    Calls Tryz.prog 10 #[coV wd hg o tv hv, .int .i64 id, .agg #[.int .i64 x, .int .i64 y], .int .i64 rise, .int .i64 tick] w fun e w' => e = .returned (.tuple #[.bool (wsB wd hg g T H id (x, y) rise tick), .int .i64 (wsE wd hg g T H id (x, y) rise tick)]) ∧ Below w.heap.size w w' := by
  have HC1 := Lib.hid (fun w' (h : Below w.heap.size w w') => rCheck_any wd hg o tv hv g T H w' (ho.keep h) hl (ht.keep h) htl (hh.keep h) hhl)
  have HTW := Lib.hid (fun w' (h : Below w.heap.size w w') => rtowered_any wd hg o tv hv T id w' (ht.keep h) htl)
  have HON := Lib.hid (fun w' => rOn_any wd hg o (x, y) w')
  have HVT := Lib.hid (rtall_any rise)
  have HVK := Lib.hid (rminute_any tick)
  have HFA := Lib.hid (fun (hck : ckE wd hg g T H = 0) w' (h : Below w.heap.size w w') => rfar_any wd hg o tv hv H tick w' (hh.keep h) (by obtain ⟨_, _, h, _⟩ := ckE_ok hck; omega))
  have HSE : Hid (ckE wd hg g T H = 0 → 0 ≤ twI T id → onB wd hg (x, y) = true → wiB rise 0 200 = true → (twI T id).toNat < T.length ∧ ctT wd hg g T H id = T.getD (twI T id).toNat .nil ∧ ∀ w', Below w.heap.size w w' → Calls Tryz.prog 41 #[.agg #[.int .i64 wd, .int .i64 hg, o], .agg #[.int .i64 (ctT wd hg g T H id).id, .int .i64 (ctT wd hg g T H id).x, .int .i64 (ctT wd hg g T H id).y, .int .i64 (ctT wd hg g T H id).h], .agg #[.int .i64 x, .int .i64 y], .int .i64 rise, .int .i64 (faO H tick)] w' fun e w'' => e = .returned (.bool (seB g wd (ctT wd hg g T H id) (x, y) rise (faO H tick))) ∧ Below w'.heap.size w' w'') := Lib.hid (fun hck hix hon hri => by
    have hE : ctE wd hg g T H id = 0 := by rw [ctE_twI, if_pos hck, if_pos hix]
    obtain ⟨_, _, h3, h4, _⟩ := ct_get (rise := 0) (show seE wd hg g T H id 0 = 0 by unfold seE; rw [if_pos hE]; rfl)
    refine ⟨h3, h4, fun w' h => ?_⟩
    obtain ⟨_, t, htm, hte, _⟩ := ct_ok hE
    obtain ⟨hm, _, _, hok, _, hhz⟩ := ckE_ok hck
    rw [hte]
    have hot := hok t htm
    exact rin_any wd hg o g t.id t.x t.y t.h x y rise _ w' (ho.keep h) hm hot.2.1 hon (okT_h hot) (wi_rise hri) (faO_bd hhz))
  have HV := Lib.hid (ctE_twI wd hg g T H id)
  obtain ⟨oa, oc, rfl, _⟩ := ho.form
  obtain ⟨ta, tc, rfl, htc⟩ := ht.form
  have HTC := Lib.hid htc
  clear ho ht hh hl htl hhl htc
  unfold wsE wsB
  rw [HV.out]
  clear HV
  unfold mpV plV at HON
  simp only at HON
  obtain ⟨⟨ti, tx, ty, th⟩, htt⟩ : ∃ z, ctT wd hg g T H id = z := ⟨_, rfl⟩
  rw [htt] at HSE ⊢
  obtain ⟨E, hE⟩ : ∃ z, ckE wd hg g T H = z := ⟨_, rfl⟩
  rw [hE] at HC1 HFA HSE ⊢
  obtain ⟨ix, hix⟩ : ∃ z, twI T id = z := ⟨_, rfl⟩
  rw [hix] at HTW HSE ⊢
  obtain ⟨ob, hob⟩ : ∃ z, onB wd hg (x, y) = z := ⟨_, rfl⟩
  rw [hob] at HON HSE ⊢
  obtain ⟨rb, hrb⟩ : ∃ z, wiB rise 0 200 = z := ⟨_, rfl⟩
  rw [hrb] at HVT HSE ⊢
  obtain ⟨kb, hk⟩ : ∃ z, wiB tick 0 1048576 = z := ⟨_, rfl⟩
  rw [hk] at HVK ⊢
  obtain ⟨fa, hf⟩ : ∃ z, faO H tick = z := ⟨_, rfl⟩
  rw [hf] at HFA HSE ⊢
  obtain ⟨sb, hsb⟩ : ∃ z, seB g wd ⟨ti, tx, ty, th⟩ (x, y) rise fa = z := ⟨_, rfl⟩
  rw [hsb] at HSE ⊢
  clear htt hE hix hob hrb hk hf hsb
  simp only at HSE
  obtain ⟨C, hC⟩ : ∃ z, (if E = 0 then (if 0 ≤ ix then (0 : Int) else 5) else E) = z := ⟨_, rfl⟩
  rw [hC]
  have HCX := Lib.hid hC
  clear hC
  have HA : Hid (∀ W', Below ((w.alloc (.cells #[.int .i64 wd, .int .i64 hg, .slice oa g.length oc, .slice ta T.length tc, hv] 28)).alloc (.cells #[.int .i64 x, .int .i64 y] 30)).heap.size ((w.alloc (.cells #[.int .i64 wd, .int .i64 hg, .slice oa g.length oc, .slice ta T.length tc, hv] 28)).alloc (.cells #[.int .i64 x, .int .i64 y] 30)) W' → W'.cell? ⟨w.heap.size, 0, none⟩ = some (.int .i64 wd) ∧ W'.cell? ⟨w.heap.size, 1, none⟩ = some (.int .i64 hg) ∧ W'.cell? ⟨w.heap.size, 2, none⟩ = some (.slice oa g.length oc) ∧ W'.cell? ⟨w.heap.size, 3, none⟩ = some (.slice ta T.length tc) ∧ W'.cell? ⟨w.heap.size, 4, none⟩ = some hv ∧ W'.cell? ⟨w.heap.size + 1, 0, none⟩ = some (.int .i64 x) ∧ W'.cell? ⟨w.heap.size + 1, 1, none⟩ = some (.int .i64 y) ∧ Below w.heap.size w W') := Lib.hid (fun W' h => by
    obtain ⟨a, b, _, d⟩ := two_cells w _ _ _ _ h
    exact ⟨cellH a 0, cellH a 1, cellH a 2, cellH a 3, cellH a 4, cellH b 0, cellH b 1, d⟩)
  obtain ⟨W1, hW1⟩ : ∃ X, (w.alloc (.cells #[.int .i64 wd, .int .i64 hg, .slice oa g.length oc, .slice ta T.length tc, hv] 28)).alloc (.cells #[.int .i64 x, .int .i64 y] 30) = X := ⟨_, rfl⟩
  rw [hW1] at HA
  have HW1 := Lib.hid hW1
  have HRD := HA
  have HB0 := Lib.hid (HA.out W1 (Below.refl _ _)).2.2.2.2.2.2.2
  clear hW1 HA
  unfold coV at HC1 HFA HTW
  unfold coV
  go_enter Tryz.func10, Tryz.ntmps10
  go_wp2_with fail
  rw [HW1.out]
  obtain ⟨q0, q1, q2, q3, q4, q5, q6, _⟩ := HRD.out W1 (Below.refl _ _)
  go_wp2_with fail
  refine (HC1.out _ HB0.out).mono ?_
  rintro e w2 ⟨rfl, hb2⟩
  have HD2 := Lib.hid hb2
  have HB2 := Lib.hid (HB0.out.trans (hb2.mono HB0.out.size))
  clear hb2 q0 q1 q2 q3 q4 q5 q6
  by_cases hE0 : E = 0
  case neg =>
    obtain rfl : C = E := by rw [← HCX.out, if_neg hE0]
    have qe : (C != 0) = true := by simpa using hE0
    have HE0 := Lib.hid hE0
    clear hE0 HCX
    go_wp2_with fail
    go_ret2
    exact ⟨by first | rfl | rw [if_neg HE0.out, if_neg HE0.out, if_neg HE0.out] | rw [if_neg HE0.out, if_neg HE0.out], HB2.out⟩
  subst hE0
  obtain ⟨q0, q1, q2, q3, q4, q5, q6, _⟩ := HRD.out _ HD2.out
  go_wp2_with fail
  refine (HTW.out _ HB2.out).mono ?_
  rintro e w3 ⟨rfl, hb3⟩
  have HD3 := Lib.hid (HD2.out.trans (hb3.mono HD2.out.size))
  have HB3 := Lib.hid (HB2.out.trans (hb3.mono HB2.out.size))
  clear hb3 q0 q1 q2 q3 q4 q5 q6
  by_cases hx : 0 ≤ ix
  case neg =>
    have g0 : decide (ix < 0) = true := decide_eq_true (by omega)
    have g1 : ix < 0 := by omega
    obtain rfl : C = 5 := by rw [← HCX.out]; simp [hx]
    clear hx HCX
    go_wp2_with fail
    go_ret2
    exact ⟨rfl, HB3.out⟩
  have g0 : decide (ix < 0) = false := decide_eq_false (by omega)
  have g1 : ¬ ix < 0 := by omega
  have HX := Lib.hid hx
  obtain rfl : C = 0 := by rw [← HCX.out]; simp [hx]
  clear hx HCX
  obtain ⟨q0, q1, q2, q3, q4, q5, q6, _⟩ := HRD.out _ HD3.out
  go_wp2_with fail
  clear q0 q1 q2 q3 q4 q5 q6
  refine (HON.out _).mono ?_
  rintro e w4 ⟨rfl, hb4⟩
  have HD4 := Lib.hid (HD3.out.trans (hb4.mono HD3.out.size))
  have HB4 := Lib.hid (HB3.out.trans (hb4.mono HB3.out.size))
  clear hb4
  cases ob
  · go_wp2_with fail
    go_ret2
    exact ⟨rfl, HB4.out⟩
  go_wp2_with fail
  refine (HVT.out _).mono ?_
  rintro e w5 ⟨rfl, rfl⟩
  cases rb
  · go_wp2_with fail
    go_ret2
    exact ⟨rfl, HB4.out⟩
  go_wp2_with fail
  refine (HVK.out _).mono ?_
  rintro e w6 ⟨rfl, rfl⟩
  cases kb
  · go_wp2_with fail
    go_ret2
    exact ⟨rfl, HB4.out⟩
  obtain ⟨hixl, htt, hse⟩ := HSE.out (by trivial) HX.out (by trivial) (by trivial)
  have HS2 := Lib.hid hse
  obtain ⟨n, rfl⟩ : ∃ n : Nat, ix = n := ⟨ix.toNat, by have := HX.out; omega⟩
  rw [Int.toNat_natCast] at hixl htt
  obtain ⟨tb, tf, rfl, htb, d0, d1, d2, d3⟩ := HTC.out n hixl
  rw [← htt] at d0 d1 d2 d3
  simp only at d0 d1 d2 d3
  have hni : (n : Int) < T.length := by omega
  have hn0 : (0 : Int) ≤ n := by omega
  have KA : Hid (∀ W', Below w6.heap.size w6 W' → W'.cell? ⟨w.heap.size, 0, none⟩ = some (.int .i64 wd) ∧ W'.cell? ⟨w.heap.size, 1, none⟩ = some (.int .i64 hg) ∧ W'.cell? ⟨w.heap.size, 2, none⟩ = some (.slice oa g.length oc) ∧ W'.cell? ⟨w.heap.size, 3, none⟩ = some (.slice (some ⟨tb, tf, none⟩) T.length tc) ∧ W'.cell? ⟨w.heap.size, 4, none⟩ = some hv ∧ W'.cell? ⟨w.heap.size + 1, 0, none⟩ = some (.int .i64 x) ∧ W'.cell? ⟨w.heap.size + 1, 1, none⟩ = some (.int .i64 y) ∧ W'.cell? ⟨tb, tf + n * 4, none⟩ = some (.int .i64 ti) ∧ W'.cell? ⟨tb, tf + n * 4 + 1, none⟩ = some (.int .i64 tx) ∧ W'.cell? ⟨tb, tf + n * 4 + 2, none⟩ = some (.int .i64 ty) ∧ W'.cell? ⟨tb, tf + n * 4 + 3, none⟩ = some (.int .i64 th)) := Lib.hid (fun W' h => by
    obtain ⟨z0, z1, z2, z3, z4, z5, z6, _⟩ := HRD.out W' (HD4.out.trans (h.mono HD4.out.size))
    have hbb := HB4.out.trans (h.mono HB4.out.size)
    exact ⟨z0, z1, z2, z3, z4, z5, z6, (hbb.cell (p := ⟨tb, _, none⟩) htb).trans d0, (hbb.cell (p := ⟨tb, _, none⟩) htb).trans d1, (hbb.cell (p := ⟨tb, _, none⟩) htb).trans d2, (hbb.cell (p := ⟨tb, _, none⟩) htb).trans d3⟩)
  have CF : Hid (∀ w', Below w6.heap.size w6 w' → Calls Tryz.prog 33 #[.agg #[.int .i64 wd, .int .i64 hg, .slice oa g.length oc, .slice (some ⟨tb, tf, none⟩) T.length tc, hv], .int .i64 tick] w' fun e w'' => e = .returned (.int .i64 fa) ∧ Below w6.heap.size w6 w'') := Lib.hid (fun w' h => (HFA.out (by trivial) w' (HB4.out.trans (h.mono HB4.out.size))).mono fun e w'' ⟨he, hh⟩ => ⟨he, h.trans (hh.mono h.size)⟩)
  have CI : Hid (∀ w', Below w6.heap.size w6 w' → Calls Tryz.prog 41 #[.agg #[.int .i64 wd, .int .i64 hg, .slice oa g.length oc], .agg #[.int .i64 ti, .int .i64 tx, .int .i64 ty, .int .i64 th], .agg #[.int .i64 x, .int .i64 y], .int .i64 rise, .int .i64 fa] w' fun e w'' => e = .returned (.bool sb) ∧ Below w6.heap.size w6 w'') := Lib.hid (fun w' h => (HS2.out w' (HB4.out.trans (h.mono HB4.out.size))).mono fun e w'' ⟨he, hh⟩ => ⟨he, h.trans (hh.mono h.size)⟩)
  clear htt hse hixl d0 d1 d2 d3 htb g0 g1
  go_wp2_with fail
  refine wp_region_turn 13 (fun _ w' => Below w6.heap.size w6 w') (by kernel_rfl) (by kernel_rfl) ((Below.refl _ w6).drew) ?_
  simp only [List.take_succ_cons, List.take_zero, List.drop_succ_cons, List.drop_zero]
  iterate 13
    (first
      | (apply turnC_step (by rfl); (intro w' hw'; go_simp; exact CF.out w' hw'))
      | (apply turnC_step (by rfl); (intro w' hw'; go_simp; exact CI.out w' hw'))
      | (apply turnC_step (by rfl); (intro w' hw'; obtain ⟨y0, y1, y2, y3, y4, y5, y6, y7, y8, y9, y10⟩ := KA.out w' hw'; go_simp; first | exact ⟨hw', rfl⟩ | exact rfl)))
    simp only [Act.put, List.setIfInBounds_toArray, List.set_cons_succ, List.set_cons_zero]
  intro listed w7 _ hw7
  have HB7 := Lib.hid (HB4.out.trans (hw7.mono HB4.out.size))
  clear hw7 KA CF CI hni hn0
  go_wp2_with fail
  go_ret2
  exact ⟨rfl, HB7.out⟩
end Go.Proofs.YtnacgogcbbpjmaaGreat
