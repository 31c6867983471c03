/- RidgeSites: Best answers as the reference does. -/
import Derived.Test.YtnacgogcbbpjmaaHC2
import Derived.Test.YtnacgogcbbpjmaaHL3
import Derived.Test.YtnacgogcbbpjmaaHP4
import Derived.Test.YtnacgogcbbpjmaaHS3
set_option linter.unusedVariables false
set_option linter.unusedSimpArgs false
namespace Go.Proofs.Ytnacgogcbbpjmaa
open Go Go.RowKit

/-- Best of package ridge in the reference's form. -/
theorem Best_all (wd hg : Int) (o tv hv : Value) (g : List Int) (T : List Tw) (H : List Hz) (height rise tick : Int) (w : World) (ho : INRow w o g) (hl : g.length ≤ 9223372036854775807) (ht : TwRow w tv T) (htl : T.length ≤ 9223372036854775807) (hh : HzRow w hv H) (hhl : H.length ≤ 9223372036854775807) :
    Calls Try.prog 7 #[coV wd hg o tv hv, .int .i64 height, .int .i64 rise, .int .i64 tick] w fun e w' => ∃ x y n, e = .returned (.tuple #[.agg #[.int .i64 x, .int .i64 y], .int .i64 n, .int .i64 (beE wd hg g T H height rise tick)]) ∧ Below w.heap.size w w' ∧ (beE wd hg g T H height rise tick ≠ 0 → x = 0 ∧ y = 0 ∧ n = 0) ∧
      (beE wd hg g T H height rise tick = 0 → ∃ k : Nat, k < g.length ∧ beK g wd T height rise (faO H tick) = k ∧ x = (plI wd k).1 ∧ y = (plI wd k).2 ∧ n = beN g wd T height rise (faO H tick)) := by
  by_cases hE : beE wd hg g T H height rise tick = 0
  · refine (Best_ok wd hg o tv hv g T H height rise tick w ho hl ht htl hh hhl hE).mono fun e w' ⟨k, h1, h2, h3, h4⟩ => ?_
    exact ⟨_, _, _, by rw [h3, hE], h4, fun h => absurd hE h, fun _ => ⟨k, h1, h2, rfl, rfl, rfl⟩⟩
  · refine (Best_bad wd hg o tv hv g T H height rise tick w ho hl ht htl hh hhl hE).mono fun e w' ⟨h1, h2⟩ => ?_
    exact ⟨_, _, _, h1, h2, fun _ => ⟨rfl, rfl, rfl⟩, fun h => absurd h hE⟩
set_option maxRecDepth 100000 in
set_option maxHeartbeats 8000000 in
theorem sites_card (wd hg : Int) (o tv hz : Value) (g : List Int) (T : List Tw) (Z : List Hz) (height rise tick : Int) (w : World) (ho : INRow w o g) (hl : g.length ≤ 9223372036854775807) (ht : TwRow w tv T) (htl : T.length ≤ 9223372036854775807) (hh : HzRow w hz Z) (hhl : Z.length ≤ 9223372036854775807) (_ : -9223372036854775808 ≤ height ∧ height ≤ 9223372036854775807) (_ : -9223372036854775808 ≤ rise ∧ rise ≤ 9223372036854775807) (_ : -9223372036854775808 ≤ tick ∧ tick ≤ 9223372036854775807) :
    Calls Try.prog 3 #[coV wd hg o tv hz, .int .i64 height, .int .i64 rise, .int .i64 tick] w fun e w' => e = .returned (.bool true) ∧ Below w.heap.size w w' := by
  have HFW := Lib.hid (fun w' (h : Below w.heap.size w w') => few_any 0 0 (.slice none 0 0) tv hz [] T Z w' (.inl ⟨_, _, rfl, rfl⟩) (ht.keep h) (hh.keep h))
  obtain ⟨E, hE⟩ : ∃ x, beE wd hg g T Z height rise tick = x := ⟨_, rfl⟩
  obtain ⟨x, y, n, hxyn⟩ : ∃ x y n : Int, (E ≠ 0 → x = 0 ∧ y = 0 ∧ n = 0) ∧ (∀ k : Nat, E = 0 → beK g wd T height rise (faO Z tick) = k → x = (plI wd k).1 ∧ y = (plI wd k).2 ∧ n = beN g wd T height rise (faO Z tick)) := by
    by_cases h0 : E = 0
    · by_cases hk : ∃ k : Nat, beK g wd T height rise (faO Z tick) = k
      · obtain ⟨k, hk⟩ := hk
        refine ⟨(plI wd k).1, (plI wd k).2, beN g wd T height rise (faO Z tick), fun h => absurd h0 h, fun k' _ hk' => ?_⟩
        · have : k' = k := by rw [hk] at hk'; exact (Int.natCast_inj.1 hk').symm
          subst this; exact ⟨rfl, rfl, rfl⟩
      · exact ⟨0, 0, 0, fun _ => ⟨rfl, rfl, rfl⟩, fun k _ h => absurd ⟨k, h⟩ hk⟩
    · exact ⟨0, 0, 0, fun _ => ⟨rfl, rfl, rfl⟩, fun k h => absurd h h0⟩
  have HS1 := Lib.hid (fun w' (h : Below w.heap.size w w') => (Best_all wd hg o tv hz g T Z height rise tick w' (ho.keep h) hl (ht.keep h) htl (hh.keep h) hhl).mono fun e w'' ⟨x', y', n', he, hb, h1, h2⟩ => (by
    rw [hE] at he h1 h2
    refine ⟨?_, hb⟩
    rw [he]
    by_cases h0 : E = 0
    · obtain ⟨k, _, hk, rfl, rfl, rfl⟩ := h2 h0
      obtain ⟨rfl, rfl, rfl⟩ := hxyn.2 k h0 hk; rfl
    · obtain ⟨rfl, rfl, rfl⟩ := h1 h0
      obtain ⟨rfl, rfl, rfl⟩ := hxyn.1 h0; rfl : e = Ending.returned (.tuple #[.agg #[.int .i64 x, .int .i64 y], .int .i64 n, .int .i64 E]) ∧ Below w'.heap.size w' w''))
  have HS2 := Lib.hid (fun w' (h : Below w.heap.size w w') => (rBest_any wd hg o tv hz g T Z height rise tick w' (ho.keep h) hl (ht.keep h) htl (hh.keep h) hhl).mono fun e w'' ⟨x', y', n', he, hb, h1, h2⟩ => (by
    rw [hE] at he h1 h2
    refine ⟨?_, hb⟩
    rw [he]
    by_cases h0 : E = 0
    · obtain ⟨k, _, hk, rfl, rfl, rfl⟩ := h2 h0
      obtain ⟨rfl, rfl, rfl⟩ := hxyn.2 k h0 hk; rfl
    · obtain ⟨rfl, rfl, rfl⟩ := h1 h0
      obtain ⟨rfl, rfl, rfl⟩ := hxyn.1 h0; rfl : e = Ending.returned (.agg #[.int .i64 x, .int .i64 y, .int .i64 n, .int .i64 E]) ∧ Below w'.heap.size w' w''))
  obtain ⟨fb, hfb⟩ : ∃ x, fewB ([] : List Int).length T.length Z.length = x := ⟨_, rfl⟩
  rw [hfb] at HFW
  obtain ⟨oa, oc, rfl, _⟩ := ho.form
  obtain ⟨ta, tc, rfl, _⟩ := ht.form
  obtain ⟨za, zc, rfl, _⟩ := hh.form
  obtain ⟨tv, htv⟩ : ∃ v, v = Value.slice ta T.length tc := ⟨_, rfl⟩
  obtain ⟨hz, hhz⟩ : ∃ v, v = Value.slice za Z.length zc := ⟨_, rfl⟩
  obtain ⟨W1, hW1, hb0, hs1, hrd⟩ := co_reads w wd hg (.slice oa g.length oc) (.slice ta T.length tc) (.slice za Z.length zc)
  clear htv hhz tv hz
  have HW1 := Lib.hid hW1; have HB0 := Lib.hid hb0; have HRD := Lib.hid hrd
  have HCO : Hid (∀ (W : World) (A : Array Value) (t : TypeId), Below W.heap.size W (W.alloc (.cells A t))) := Lib.hid (fun W A t => (Below.refl _ W).alloc (Nat.le_refl _) _)
  have hgl0 : (0 : Int) ≤ g.length := by omega
  clear hW1 hb0 hs1 hrd ho ht hh hl htl hhl hE hxyn hfb
  unfold coV at HFW HS1 HS2
  unfold coV
  go_enter Try.func3, Try.ntmps3
  go_wp2_with fail
  rw [← HW1.out]
  refine (head_any W1).mono ?_
  rintro e w2 ⟨rfl, hb⟩
  have HD2 := Lib.hid hb
  have HB2 := Lib.hid (HB0.out.trans (hb.mono HB0.out.size))
  clear hb
  obtain ⟨p0, p1, p2, p3, p4⟩ := HRD.out w2 HD2.out
  go_wp2_with fail
  have HDX := Lib.hid (HD2.out.trans ((HCO.out w2 #[.int .i64 0, .int .i64 0, .slice none 0 0, .slice ta T.length tc, .slice za Z.length zc] 28).mono HD2.out.size))
  have HBX := Lib.hid (HB2.out.trans ((HCO.out w2 #[.int .i64 0, .int .i64 0, .slice none 0 0, .slice ta T.length tc, .slice za Z.length zc] 28).mono HB2.out.size))
  obtain ⟨WX, hWX⟩ : ∃ X, w2.alloc (.cells #[.int .i64 0, .int .i64 0, .slice none 0 0, .slice ta T.length tc, .slice za Z.length zc] 28) = X := ⟨_, rfl⟩
  rw [hWX] at HDX HBX
  have HW2 := Lib.hid hWX
  clear hWX p0 p1 p2 p3 p4
  rw [HW2.out]
  refine (HFW.out _ HBX.out).mono ?_
  rintro e w3 ⟨rfl, hb⟩
  have HD3 := Lib.hid (HDX.out.trans (hb.mono HDX.out.size))
  have HB3 := Lib.hid (HBX.out.trans (hb.mono HBX.out.size))
  clear hb
  cases fb
  · go_wp2_with fail
    go_ret
    exact ⟨rfl, HB3.out⟩
  obtain ⟨p0, p1, p2, p3, p4⟩ := HRD.out w3 HD3.out
  obtain ⟨b1, d1⟩ : ∃ b, decide ((30 : Int) < g.length) = b := ⟨_, rfl⟩
  obtain ⟨b2, d2⟩ : ∃ b, decide ((g.length : Int) ≤ 200) = b := ⟨_, rfl⟩
  obtain ⟨b3, d3⟩ : ∃ b, decide ((300 : Int) < g.length) = b := ⟨_, rfl⟩
  by_cases hret : ((b1 && b2) || b3) = true
  · cases b1 <;> cases b2 <;> cases b3 <;> first
      | (exfalso; simp at hret; done)
      | (exfalso; simp at d1 d2 d3; omega)
      | (go_wp2_with fail
         go_ret
         exact ⟨rfl, HB3.out⟩)
  obtain ⟨hb12, rfl⟩ : (b1 && b2) = false ∧ b3 = false := by revert hret; cases b1 <;> cases b2 <;> cases b3 <;> decide
  have hq : b1 = true ∧ b2 = false ∨ b1 = false ∧ b2 = true := by
    revert hb12 d1 d2; cases b1 <;> cases b2 <;> simp <;> omega
  clear hret hb12
  rcases hq with ⟨rfl, rfl⟩ | ⟨rfl, rfl⟩
  all_goals
    go_wp2_with fail
    refine (HS1.out _ HB3.out).mono ?_
    rintro e w4 ⟨rfl, hb⟩
    have HD4 := Lib.hid (HD3.out.trans (hb.mono HD3.out.size))
    have HB4 := Lib.hid (HB3.out.trans (hb.mono HB3.out.size))
    clear hb p0 p1 p2 p3 p4
    have HDY := Lib.hid (HD4.out.trans ((HCO.out w4 #[.int .i64 x, .int .i64 y] 32).mono HD4.out.size))
    have HBY := Lib.hid (HB4.out.trans ((HCO.out w4 #[.int .i64 x, .int .i64 y] 32).mono HB4.out.size))
    have HPY : Hid ((w4.alloc (.cells #[.int .i64 x, .int .i64 y] 32)).heap[w4.heap.size]? = some (.cells #[.int .i64 x, .int .i64 y] 32 (0, 0))) := Lib.hid (heap_alloc_new _ _)
    obtain ⟨p0, p1, p2, p3, p4⟩ := HRD.out _ HDY.out
    go_wp2_with fail
    obtain ⟨Y, hY⟩ : ∃ Y, w4.alloc (.cells #[.int .i64 x, .int .i64 y] 32) = Y := ⟨_, rfl⟩
    rw [hY] at HDY HBY HPY ⊢
    clear hY p0 p1 p2 p3 p4
    refine (HS2.out _ HBY.out).mono ?_
    rintro e w6 ⟨rfl, hb⟩
    have HB6 := Lib.hid (HBY.out.trans (hb.mono HBY.out.size))
    have HB7 := Lib.hid (HB6.out.alloc HB6.out.size (.cells #[.int .i64 x, .int .i64 y, .int .i64 n, .int .i64 E] 37))
    have hq1 := (hb.block _ (Array.getElem?_eq_some_iff.1 HPY.out).1).trans HPY.out
    have hq2 := (Below.heap_alloc w6 (.cells #[.int .i64 x, .int .i64 y, .int .i64 n, .int .i64 E] 37) _ (Array.getElem?_eq_some_iff.1 hq1).1).trans hq1
    have e0 := cellH hq2 0
    have e1 := cellH hq2 1
    simp at e0 e1
    clear hb hq1 hq2
    go_wp2_with fail
    go_ret
    exact ⟨by simp, HB7.out⟩
end Go.Proofs.Ytnacgogcbbpjmaa
