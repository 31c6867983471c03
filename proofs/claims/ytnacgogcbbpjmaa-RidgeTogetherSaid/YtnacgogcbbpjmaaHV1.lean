/- Far and Sees of both packages. -/
import Derived.Test.YtnacgogcbbpjmaaHM1
import Derived.Test.YtnacgogcbbpjmaaHM5
import Derived.Test.YtnacgogcbbpjmaaHR0
set_option linter.unusedVariables false
set_option linter.unusedSimpArgs false
namespace Go.Proofs.Ytnacgogcbbpjmaa
open Go Go.RowKit

def feE (wd hg : Int) (g : List Int) (T : List Tw) (H : List Hz) (tick : Int) : Int := if ckE wd hg g T H = 0 then (if wiB tick 0 1048576 = true then 0 else 1) else ckE wd hg g T H
def feN (wd hg : Int) (g : List Int) (T : List Tw) (H : List Hz) (tick : Int) : Int := if ckE wd hg g T H = 0 then (if wiB tick 0 1048576 = true then faO H tick else 0) else 0
set_option maxRecDepth 100000 in
set_option maxHeartbeats 8000000 in
theorem Far_any (wd hg : Int) (o tv hv : Value) (g : List Int) (T : List Tw) (H : List Hz) (tick : Int) (w : World) (ho : INRow w o g) (hl : g.length ≤ 9223372036854775807) (ht : TwRow w tv T) (htl : T.length ≤ 9223372036854775807) (hh : HzRow w hv H) (hhl : H.length ≤ 9223372036854775807) :
    Calls Try.prog 10 #[coV wd hg o tv hv, .int .i64 tick] w fun e w' => e = .returned (.tuple #[.int .i64 (feN wd hg g T H tick), .int .i64 (feE wd hg g T H tick)]) ∧ Below w.heap.size w w' := by
  have HC1 := Lib.hid (fun w' (h : Below w.heap.size w w') => Check_any wd hg o tv hv g T H w' (ho.keep h) hl (ht.keep h) htl (hh.keep h) hhl)
  have HVK := Lib.hid (validTick_any tick)
  have HFA := Lib.hid (fun (hck : ckE wd hg g T H = 0) w' (h : Below w.heap.size w w') => farAt_any wd hg o tv hv H tick w' (hh.keep h) (by obtain ⟨_, _, h, _⟩ := ckE_ok hck; omega))
  obtain ⟨W1, hW1, hb0, hs1, hrd⟩ := co_reads w wd hg o tv hv
  have HW1 := Lib.hid hW1; have HB0 := Lib.hid hb0; have HRD := Lib.hid hrd
  clear hW1 hb0 hs1 hrd ho ht hh hl htl hhl
  unfold feE feN
  obtain ⟨E, hE⟩ : ∃ x, ckE wd hg g T H = x := ⟨_, rfl⟩
  rw [hE] at HC1 HFA ⊢
  obtain ⟨kb, hk⟩ : ∃ x, wiB tick 0 1048576 = x := ⟨_, rfl⟩
  rw [hk] at HVK ⊢
  obtain ⟨fa, hf⟩ : ∃ x, faO H tick = x := ⟨_, rfl⟩
  rw [hf] at HFA ⊢
  clear hE hk hf
  unfold coV at HC1 HFA
  unfold coV
  go_enter Try.func10, Try.ntmps10
  go_wp2_with fail
  rw [← HW1.out]
  obtain ⟨q0, q1, q2, q3, q4⟩ := HRD.out W1 (Below.refl _ _)
  go_wp2_with fail
  refine (HC1.out _ HB0.out).mono ?_
  rintro e w2 ⟨rfl, hb2⟩
  have HD2 := Lib.hid hb2
  have HB2 := Lib.hid (HB0.out.trans (hb2.mono HB0.out.size))
  clear hb2 q0 q1 q2 q3 q4
  by_cases hE0 : E = 0
  · subst hE0
    go_wp2_with fail
    refine (HVK.out _).mono ?_
    rintro e w3 ⟨rfl, rfl⟩
    cases kb
    · go_wp2_with fail
      go_ret2
      exact ⟨rfl, HB2.out⟩
    · obtain ⟨q0, q1, q2, q3, q4⟩ := HRD.out _ HD2.out
      go_wp2_with fail
      refine (HFA.out (by trivial) _ HB2.out).mono ?_
      rintro e w4 ⟨rfl, hb4⟩
      have HB4 := Lib.hid (HB2.out.trans (hb4.mono HB2.out.size))
      clear hb4 q0 q1 q2 q3 q4
      go_wp2_with fail
      go_ret2
      exact ⟨rfl, HB4.out⟩
  · have qe : (E != 0) = true := by simpa using hE0
    have HE0 := Lib.hid hE0
    clear hE0
    go_wp2_with fail
    go_ret2
    exact ⟨by first | rfl | rw [if_neg HE0.out, if_neg HE0.out], HB2.out⟩
def wsE (wd hg : Int) (g : List Int) (T : List Tw) (H : List Hz) (id : Int) (p : Pl) (rise tick : Int) : Int := if ctE wd hg g T H id = 0 then (if (onB wd hg p && wiB rise 0 200 && wiB tick 0 1048576) = true then 0 else 1) else ctE wd hg g T H id
def wsB (wd hg : Int) (g : List Int) (T : List Tw) (H : List Hz) (id : Int) (p : Pl) (rise tick : Int) : Bool := if ctE wd hg g T H id = 0 then (if (onB wd hg p && wiB rise 0 200 && wiB tick 0 1048576) = true then seB g wd (ctT wd hg g T H id) p rise (faO H tick) else false) else false
theorem ctE_twI (wd hg : Int) (g : List Int) (T : List Tw) (H : List Hz) (id : Int) : ctE wd hg g T H id = if ckE wd hg g T H = 0 then (if 0 ≤ twI T id then 0 else 5) else ckE wd hg g T H := by
  unfold ctE
  rw [twF_full]
  by_cases h : ckE wd hg g T H = 0
  · rw [if_pos h, if_pos h]
    by_cases h2 : 0 ≤ twI T id
    · rw [if_pos h2, if_pos h2]; rfl
    · rw [if_neg h2, if_neg h2]; rfl
  · rw [if_neg h, if_neg h]
theorem wi_rise {rise : Int} (h : wiB rise 0 200 = true) : 0 ≤ rise ∧ rise ≤ 200 := by unfold wiB at h; simpa using h
theorem okT_h {wd hg : Int} {t : Tw} (h : okT wd hg t) : 0 ≤ t.h ∧ t.h ≤ 200 := by
  have h2 := h.2.2
  unfold wiB at h2
  simpa using h2
end Go.Proofs.Ytnacgogcbbpjmaa
