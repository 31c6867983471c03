/- The reference's sees, whole and asked. -/
import Derived.Test.YtjllkmekchmmbaaHM3
import Derived.Test.YtjllkmekchmmbaaHF1
import Derived.Test.YtjllkmekchmmbaaHL2
set_option linter.unusedVariables false
set_option linter.unusedSimpArgs false
namespace Go.Proofs.Ytjllkmekchmmbaa
open Go Go.RowKit

set_option maxRecDepth 100000 in
set_option maxHeartbeats 2000000 in
theorem rsees_any (wd hg : Int) (o : Value) (g : List Int) (ti tx ty th x y rise : Int) (w : World) (hv : INRow w o g) (hm : vmB wd hg g = true) (ha : onB wd hg (tx, ty) = true) (hb : onB wd hg (x, y) = true) (hup : 0 ≤ th ∧ th ≤ 200) (hri : 0 ≤ rise ∧ rise ≤ 200) :
    Calls Try.prog 65 #[.agg #[.int .i64 wd, .int .i64 hg, o], .agg #[.int .i64 ti, .int .i64 tx, .int .i64 ty, .int .i64 th], .agg #[.int .i64 x, .int .i64 y], .int .i64 rise] w fun e w' => e = .returned (.bool (freeB g wd (tx, ty) th (x, y) rise)) ∧ Below w.heap.size w w' := by
  have HFI := Lib.hid (fun w' (h : Below w.heap.size w w') => rfirst_any wd hg o g (tx, ty) (x, y) th rise w' (hv.keep h) hm ha hb hup hri)
  have hfm : ∃ c1 c2 : Int, ∀ w', Below w.heap.size w w' → Calls Try.prog 92 #[mpV wd hg o, plV (tx, ty), .int .i64 th, plV (x, y), .int .i64 rise] w' fun e w'' => e = .returned (.tuple #[.agg #[.int .i64 c1, .int .i64 c2], .bool (!freeB g wd (tx, ty) th (x, y) rise)]) ∧ Below w'.heap.size w' w'' := by
    have h := HFI.out
    unfold freeB
    generalize blk g wd (tx, ty) (x, y) (hAt g wd (tx, ty) + th) (hAt g wd (x, y) + rise) = L at h ⊢
    cases L with
    | nil => exact ⟨0, 0, h⟩
    | cons c l => exact ⟨c.1, c.2, h⟩
  clear HFI
  obtain ⟨c1, c2, hf⟩ := hfm
  have HFI := Lib.hid hf
  obtain ⟨oa, oc, rfl, _⟩ := hv.form
  unfold mpV plV at HFI
  simp only at HFI
  have HA : Hid (∀ W', Below (((w.alloc (.cells #[.int .i64 wd, .int .i64 hg, .slice oa g.length oc] 24)).alloc (.cells #[.int .i64 ti, .int .i64 tx, .int .i64 ty, .int .i64 th] 73)).alloc (.cells #[.int .i64 x, .int .i64 y] 30)).heap.size (((w.alloc (.cells #[.int .i64 wd, .int .i64 hg, .slice oa g.length oc] 24)).alloc (.cells #[.int .i64 ti, .int .i64 tx, .int .i64 ty, .int .i64 th] 73)).alloc (.cells #[.int .i64 x, .int .i64 y] 30)) W' → _) := Lib.hid (fun W' h => three_cells w _ _ _ _ _ _ h)
  have HB0 := Lib.hid ((((Below.refl _ w).alloc (Nat.le_refl w.heap.size) (.cells #[.int .i64 wd, .int .i64 hg, .slice oa g.length oc] 24)).alloc (by simp) (.cells #[.int .i64 ti, .int .i64 tx, .int .i64 ty, .int .i64 th] 73)).alloc (by simp; omega) (.cells #[.int .i64 x, .int .i64 y] 30))
  obtain ⟨W1, hW1⟩ : ∃ X, ((w.alloc (.cells #[.int .i64 wd, .int .i64 hg, .slice oa g.length oc] 24)).alloc (.cells #[.int .i64 ti, .int .i64 tx, .int .i64 ty, .int .i64 th] 73)).alloc (.cells #[.int .i64 x, .int .i64 y] 30) = X := ⟨_, rfl⟩
  rw [hW1] at HA HB0
  have HW1 := Lib.hid hW1
  obtain ⟨m0, m1, m2, _, _⟩ := HA.out W1 (Below.refl _ _)
  have q0 := cellH m0 0
  have q1 := cellH m0 1
  have q2 := cellH m0 2
  have r1 := cellH m1 1
  have r2 := cellH m1 2
  have r3 := cellH m1 3
  have s0 := cellH m2 0
  have s1 := cellH m2 1
  simp only [List.getElem?_toArray, List.getElem?_cons_zero, List.getElem?_cons_succ] at q0 q1 q2 r1 r2 r3 s0 s1
  have ead : w.heap.size + 1 + 1 = w.heap.size + 2 := rfl
  obtain ⟨fb, hfb⟩ : ∃ b, freeB g wd (tx, ty) th (x, y) rise = b := ⟨_, rfl⟩
  rw [hfb] at HFI ⊢
  clear hW1 hv hf hfb m0 m1 m2 hm ha hb hup hri
  go_enter Try.func65, Try.ntmps65
  go_wp2_with fail
  rw [HW1.out]
  go_wp2_with fail
  refine (HFI.out _ HB0.out).mono ?_
  rintro e w2 ⟨rfl, hb2⟩
  have HB2 := Lib.hid (HB0.out.trans (hb2.mono HB0.out.size))
  have HB3 := Lib.hid (HB2.out.alloc HB2.out.size (.cells #[.int .i64 c1, .int .i64 c2] 85))
  clear hb2 q0 q1 q2 r1 r2 r3 s0 s1
  go_wp2_with fail
  go_ret
  exact ⟨by simp, HB3.out⟩
theorem plI_at {wn j k : Nat} (h : j < wn) : plI (wn : Int) (k * wn + j) = ((j : Int), (k : Int)) := by
  unfold plI
  have e : ((k * wn + j : Nat) : Int) = (j : Int) + (wn : Int) * k := by
    rw [Int.natCast_add, Int.natCast_mul, Int.mul_comm]; omega
  rw [e, Int.add_mul_emod_self_left, Int.add_mul_ediv_left _ _ (by omega), Int.emod_eq_of_lt (by omega) (by omega), Int.ediv_eq_zero_of_lt (by omega) (by omega), Int.zero_add]
set_option maxRecDepth 100000 in
set_option maxHeartbeats 4000000 in
theorem rwhole_any (wn hn : Nat) (o : Value) (w : World) (hw : 1 ≤ wn ∧ wn ≤ 49) (hh : 1 ≤ hn ∧ hn ≤ 49) (ho : ∃ a n c, o = .slice a n c) :
    Calls Try.prog 74 #[.agg #[.int .i64 wn, .int .i64 hn, o]] w fun e w' => ∃ v', e = .returned v' ∧ Below w.heap.size w w' ∧ w'.ownsRow w.heap.size 30 2 v' (hn * wn) ((plN wn (hn * wn)).flatMap encP) := by
  obtain ⟨oa, on, oc, rfl⟩ := ho
  have HB0 := Lib.hid ((Below.refl _ w).alloc (Nat.le_refl w.heap.size) (.cells #[.int .i64 wn, .int .i64 hn, .slice oa on oc] 24))
  have HR0 : Hid ((w.alloc (.cells #[.int .i64 wn, .int .i64 hn, .slice oa on oc] 24)).heap[w.heap.size]? = some (.cells #[.int .i64 wn, .int .i64 hn, .slice oa on oc] 24 (0, 0))) := Lib.hid (heap_alloc_new _ _)
  obtain ⟨W1, hW1⟩ : ∃ X, w.alloc (.cells #[.int .i64 wn, .int .i64 hn, .slice oa on oc] 24) = X := ⟨_, rfl⟩
  rw [hW1] at HB0 HR0
  have HW1 := Lib.hid hW1
  have HRD : Hid (∀ W', Below W1.heap.size W1 W' → W'.cell? ⟨w.heap.size, 0, none⟩ = some (.int .i64 wn) ∧ W'.cell? ⟨w.heap.size, 1, none⟩ = some (.int .i64 hn)) := Lib.hid (fun W' h => by
    have m0 := (h.block _ (Array.getElem?_eq_some_iff.1 HR0.out).1).trans HR0.out
    exact ⟨cellH m0 0, cellH m0 1⟩)
  obtain ⟨i0, hi0, hz0, hz1, hz2⟩ := info_parts info_pl3
  clear hW1
  go_enter Try.func74, Try.ntmps74
  go_wp2_with fail
  rw [HW1.out]
  go_loopw [3, 4] (fun v y wr => ∃ (k : Nat), k ≤ hn ∧ y = .int .i64 k ∧ Hid (Below W1.heap.size W1 wr) ∧ Hid (wr.ownsRow W1.heap.size 30 2 v (k * wn) ((plN wn (k * wn)).flatMap encP))) (fun _ y _ => hn - (intOf y).toNat)
  case atStart => exact ⟨0, Nat.zero_le _, rfl, Lib.hid (Below.refl _ _), Lib.hid (by rw [Nat.zero_mul]; exact World.ownsRow_nil _ _ _ _)⟩
  case round =>
    obtain ⟨k, hk, rfl, hB, hO⟩ := hrel
    obtain ⟨q0, q1⟩ := HRD.out wr hB.out
    by_cases hkl : k < hn
    · have hki : (k : Int) < hn := by omega
      have hk0 : (0 : Int) ≤ k := by omega
      go_wp2_with fail
      clear q0 q1
      go_loopw [3, 5] (fun v x wr => ∃ (j : Nat), j ≤ wn ∧ x = .int .i64 j ∧ Hid (Below W1.heap.size W1 wr) ∧ Hid (wr.ownsRow W1.heap.size 30 2 v (k * wn + j) ((plN wn (k * wn + j)).flatMap encP))) (fun _ x _ => wn - (intOf x).toNat)
      case atStart => exact ⟨0, Nat.zero_le _, rfl, hB, Lib.hid (by rw [Nat.add_zero]; exact hO.out)⟩
      case round =>
        clear hB hO
        obtain ⟨j, hj, rfl, hB, hO⟩ := hrel
        obtain ⟨q0, q1⟩ := HRD.out wr hB.out
        by_cases hjl : j < wn
        · have hji : (j : Int) < wn := by omega
          have hj0 : (0 : Int) ≤ j := by omega
          have hlen : k * wn + j ≤ 2401 := by
            have : k * wn ≤ 48 * wn := Nat.mul_le_mul_right _ (by omega)
            omega
          have HFL : Hid ((plN wn (k * wn + j + 1)).flatMap encP = (plN wn (k * wn + j)).flatMap encP ++ [.int .i64 j, .int .i64 k]) := Lib.hid (by
            rw [plN_flat, plI_at hjl]; rfl)
          obtain ⟨m, hm⟩ : ∃ m, k * wn + j = m := ⟨_, rfl⟩
          rw [hm] at hO hlen HFL
          have HME := Lib.hid hm
          have h63 : m + 1 ≤ maxLen := by unfold maxLen; omega
          have hby : (m + 1) * 16 ≤ 140737488355328 := by omega
          have hbase : W1.heap.size ≤ wr.heap.size := hB.out.size
          have hO5 := hO.out
          clear hm hlen
          go_wp2_with (at_builtin; refine wpList_append_own _ rfl _ _ 42 rfl W1.heap.size 30 i0 (.agg #[.int .i64 0, .int .i64 0]) 2 16 Try.underlying42 hi0 hz0 hz1 hz2 rfl (by decide) _ _ _ rfl (World.ownsRow.alloc hO5 _) ⟨wr.heap.size, 0, none⟩ 1 1 [.int .i64 j, .int .i64 k] rfl rfl (fun j u h => cell_two' _ _ _ _ j u h) (by simp [Value.oneCell']) h63 hby (by simp; omega) ?_; intro v' w6 hown' hgrow _)
          have HB6 : Hid (Below W1.heap.size W1 w6) := Lib.hid ((hB.out.alloc hbase _).grown hgrow (by simp; omega) (fun j e => (World.ownsRow.lt hO5 j e).1))
          have HO6 : Hid (w6.ownsRow W1.heap.size 30 2 v' (k * wn + (j + 1)) ((plN wn (k * wn + (j + 1))).flatMap encP)) := Lib.hid (by
            rw [show k * wn + (j + 1) = m + 1 by have := HME.out; omega, HFL.out]; exact hown')
          clear hown' hgrow hO5 q0 q1
          go_wp2_with fail
          go_roundw
          case rel => exact ⟨j + 1, by omega, by go_num, HB6, HO6⟩
          case measure => simp [intOf]; omega
        · have HJW : Hid (j = wn) := Lib.hid (by omega)
          have HO6 : Hid (wr.ownsRow W1.heap.size 30 2 u3 ((k + 1) * wn) ((plN wn ((k + 1) * wn)).flatMap encP)) := Lib.hid (by
            have h9 := hO.out
            rw [HJW.out] at h9
            rw [Nat.succ_mul]; exact h9)
          go_wp2_with fail
          go_roundw
          case rel => exact ⟨k + 1, by omega, by go_num, hB, HO6⟩
          case measure => simp [intOf]; omega
    · obtain rfl : k = hn := by omega
      have HBW := Lib.hid (HB0.out.trans (hB.out.mono HB0.out.size))
      go_wp2_with fail
      go_ret
      exact ⟨_, rfl, HBW.out, own_base hO.out HB0.out.size⟩
/-- The first fault of a country, an ID and a height. -/
theorem seE_twI (wd hg : Int) (g : List Int) (T : List Tw) (Z : List Hz) (id rise : Int) : seE wd hg g T Z id rise = if ckE wd hg g T Z = 0 then (if 0 ≤ twI T id then (if wiB rise 0 200 = true then 0 else 1) else 5) else ckE wd hg g T Z := by
  unfold seE ctE
  rw [twF_full]
  by_cases h : ckE wd hg g T Z = 0
  · rw [if_pos h, if_pos h]
    by_cases h2 : 0 ≤ twI T id
    · rw [if_pos h2, if_pos h2]; rfl
    · rw [if_neg h2, if_neg h2]; rfl
  · rw [if_neg h, if_neg h, if_neg h]
set_option maxRecDepth 100000 in
set_option maxHeartbeats 2000000 in
theorem rasked_any (wd hg : Int) (o tv hv : Value) (g : List Int) (T : List Tw) (H : List Hz) (id rise : Int) (w : World) (ho : INRow w o g) (hl : g.length ≤ 9223372036854775807) (ht : TwRow w tv T) (htl : T.length ≤ 9223372036854775807) (hh : HzRow w hv H) (hhl : H.length ≤ 9223372036854775807) :
    Calls Try.prog 87 #[coV wd hg o tv hv, .int .i64 id, .int .i64 rise] w fun e w' => e = .returned (.tuple #[.int .i64 (if seE wd hg g T H id rise = 0 then twI T id else 0), .int .i64 (seE wd hg g T H id rise)]) ∧ Below w.heap.size w w' := by
  have HC1 := Lib.hid (fun w' (h : Below w.heap.size w w') => rCheck_any wd hg o tv hv g T H w' (ho.keep h) hl (ht.keep h) htl (hh.keep h) hhl)
  have HTW := Lib.hid (fun w' (h : Below w.heap.size w w') => rtowered_any wd hg o tv hv T id w' (ht.keep h) htl)
  have HTA := Lib.hid (rtall_any rise)
  have HV := Lib.hid (seE_twI wd hg g T H id rise)
  obtain ⟨oa, oc, rfl, _⟩ := ho.form
  obtain ⟨ta, tc, rfl, _⟩ := ht.form
  obtain ⟨ha, hc, rfl, _⟩ := hh.form
  obtain ⟨W1, hW1, hb0, hs1, hrd⟩ := co_reads w wd hg (.slice oa g.length oc) (.slice ta T.length tc) (.slice ha H.length hc)
  have HW1 := Lib.hid hW1; have HB0 := Lib.hid hb0; have HRD := Lib.hid hrd
  clear hW1 hb0 hrd hs1 ho ht hh hl htl hhl
  unfold coV at HC1 HTW
  unfold coV
  obtain ⟨E, hEe⟩ : ∃ x, ckE wd hg g T H = x := ⟨_, rfl⟩
  rw [hEe] at HC1 HV
  obtain ⟨ix, hix⟩ : ∃ x, twI T id = x := ⟨_, rfl⟩
  rw [hix] at HTW HV ⊢
  obtain ⟨rb, hrb⟩ : ∃ x, wiB rise 0 200 = x := ⟨_, rfl⟩
  rw [hrb] at HTA HV
  rw [HV.out]
  clear hEe hix hrb HV
  by_cases hE : E = 0
  case neg =>
    have qe : (E != 0) = true := by simpa using hE
    rw [if_neg hE, if_neg hE]
    clear hE
    go_enter Try.func87, Try.ntmps87
    go_wp2_with fail
    rw [← HW1.out]
    obtain ⟨q0, q1, q2, q3, q4⟩ := HRD.out W1 (Below.refl _ _)
    go_wp2_with fail
    refine (HC1.out _ HB0.out).mono ?_
    rintro e w2 ⟨rfl, hb2⟩
    have HB2 := Lib.hid (HB0.out.trans (hb2.mono HB0.out.size))
    clear hb2 q0 q1 q2 q3 q4
    go_wp2_with fail
    go_ret2
    exact ⟨rfl, HB2.out⟩
  subst hE
  rw [if_pos rfl]
  by_cases hx : 0 ≤ ix
  case neg =>
    rw [if_neg hx, if_neg (by decide)]
    have g0 : decide (ix < 0) = true := decide_eq_true (by omega)
    have g1 : ix < 0 := by omega
    clear hx
    go_enter Try.func87, Try.ntmps87
    go_wp2_with fail
    rw [← HW1.out]
    obtain ⟨q0, q1, q2, q3, q4⟩ := HRD.out W1 (Below.refl _ _)
    go_wp2_with fail
    refine (HC1.out _ HB0.out).mono ?_
    rintro e w2 ⟨rfl, hb2⟩
    have HD2 := Lib.hid hb2
    have HB2 := Lib.hid (HB0.out.trans (hb2.mono HB0.out.size))
    clear hb2 q0 q1 q2 q3 q4
    obtain ⟨q0, q1, q2, q3, q4⟩ := HRD.out w2 HD2.out
    go_wp2_with fail
    refine (HTW.out _ HB2.out).mono ?_
    rintro e w3 ⟨rfl, hb3⟩
    have HB3 := Lib.hid (HB2.out.trans (hb3.mono HB2.out.size))
    clear hb3 q0 q1 q2 q3 q4
    go_wp2_with fail
    go_ret2
    exact ⟨rfl, HB3.out⟩
  rw [if_pos hx]
  have g0 : decide (ix < 0) = false := decide_eq_false (by omega)
  have g1 : ¬ ix < 0 := by omega
  clear hx
  cases rb
  all_goals
    go_enter Try.func87, Try.ntmps87
    go_wp2_with fail
    rw [← HW1.out]
    obtain ⟨q0, q1, q2, q3, q4⟩ := HRD.out W1 (Below.refl _ _)
    go_wp2_with fail
    refine (HC1.out _ HB0.out).mono ?_
    rintro e w2 ⟨rfl, hb2⟩
    have HD2 := Lib.hid hb2
    have HB2 := Lib.hid (HB0.out.trans (hb2.mono HB0.out.size))
    clear hb2 q0 q1 q2 q3 q4
    obtain ⟨q0, q1, q2, q3, q4⟩ := HRD.out w2 HD2.out
    go_wp2_with fail
    refine (HTW.out _ HB2.out).mono ?_
    rintro e w3 ⟨rfl, hb3⟩
    have HB3 := Lib.hid (HB2.out.trans (hb3.mono HB2.out.size))
    clear hb3 q0 q1 q2 q3 q4
    go_wp2_with fail
    refine (HTA.out _).mono ?_
    rintro e w4 ⟨rfl, rfl⟩
    go_wp2_with fail
    go_ret2
    exact ⟨rfl, HB3.out⟩
end Go.Proofs.Ytjllkmekchmmbaa

/-! The reference's looked, Seen and Dead. -/
set_option linter.unusedVariables false
set_option linter.unusedSimpArgs false
namespace Go.Proofs.Ytjllkmekchmmbaa
open Go Go.RowKit

theorem ct_get {wd hg : Int} {g : List Int} {T : List Tw} {Z : List Hz} {id rise : Int} (h : seE wd hg g T Z id rise = 0) : ckE wd hg g T Z = 0 ∧ 0 ≤ twI T id ∧ (twI T id).toNat < T.length ∧ ctT wd hg g T Z id = T.getD (twI T id).toNat .nil ∧ (0 ≤ rise ∧ rise ≤ 200) := by
  rw [seE_twI] at h
  split at h
  case isFalse h1 => exact absurd h h1
  case isTrue h1 =>
    split at h
    case isFalse h2 => cases h
    case isTrue h2 =>
      split at h
      case isFalse h3 => cases h
      case isTrue h3 =>
        refine ⟨h1, h2, twI_bd h2, ?_, by unfold wiB at h3; simpa using h3⟩
        unfold ctT
        rw [if_pos h1, twF_full, if_pos h2]; rfl
theorem info_pcs : (Try.prog.info? 46).map (·.size) = some 2 := by kernel_rfl
/-- The places that a tower sees, or does not, as the reference returns them. -/
def LkOut (wd hg : Int) (g : List Int) (T : List Tw) (H : List Hz) (id rise : Int) (b : Bool) (w : World) (e : Ending) (w' : World) : Prop :=
  ∃ va n c, e = .returned (.agg #[.slice va n c, .int .i64 (seE wd hg g T H id rise)]) ∧ Below w.heap.size w w' ∧ (seE wd hg g T H id rise ≠ 0 → Value.slice va n c = .slice none 0 0) ∧
    (seE wd hg g T H id rise = 0 → w'.ownsRow w.heap.size 30 2 (.slice va n c) (seL wd g (ctT wd hg g T H id) rise b g.length).length ((seL wd g (ctT wd hg g T H id) rise b g.length).flatMap encP))
set_option maxRecDepth 100000 in
set_option maxHeartbeats 8000000 in
theorem rlooked_any (wd hg : Int) (o tv hv : Value) (g : List Int) (T : List Tw) (H : List Hz) (id rise : Int) (b : Bool) (w : World) (ho : INRow w o g) (hl : g.length ≤ 9223372036854775807) (ht : TwRow w tv T) (htl : T.length ≤ 9223372036854775807) (hh : HzRow w hv H) (hhl : H.length ≤ 9223372036854775807) :
    Calls Try.prog 62 #[coV wd hg o tv hv, .int .i64 id, .int .i64 rise, .bool b] w fun e w' => LkOut wd hg g T H id rise b w e w' := by
  have HAS := Lib.hid (fun w' (h : Below w.heap.size w w') => rasked_any wd hg o tv hv g T H id rise w' (ho.keep h) hl (ht.keep h) htl (hh.keep h) hhl)
  have HO := Lib.hid ho
  obtain ⟨oa, oc, rfl, _⟩ := ho.form
  obtain ⟨ta, tc, rfl, htc⟩ := ht.form
  obtain ⟨ha, hc, rfl, _⟩ := hh.form
  have HTC := Lib.hid htc
  have HA : Hid (∀ W', Below ((w.alloc (.cells #[.int .i64 wd, .int .i64 hg, .slice oa g.length oc, .slice ta T.length tc, .slice ha H.length hc] 28)).alloc (.cells #[.slice none 0 0, .int .i64 0] 46)).heap.size ((w.alloc (.cells #[.int .i64 wd, .int .i64 hg, .slice oa g.length oc, .slice ta T.length tc, .slice ha H.length hc] 28)).alloc (.cells #[.slice none 0 0, .int .i64 0] 46)) W' → W'.heap[w.heap.size]? = some (.cells #[.int .i64 wd, .int .i64 hg, .slice oa g.length oc, .slice ta T.length tc, .slice ha H.length hc] 28 (0, 0)) ∧ W'.heap[w.heap.size + 1]? = some (.cells #[.slice none 0 0, .int .i64 0] 46 (0, 0)) ∧ w.heap.size + 1 < W'.heap.size ∧ Below w.heap.size w W') := Lib.hid (fun W' h => two_cells w _ _ _ _ h)
  have HB0 := Lib.hid (((Below.refl _ w).alloc (Nat.le_refl w.heap.size) (.cells #[.int .i64 wd, .int .i64 hg, .slice oa g.length oc, .slice ta T.length tc, .slice ha H.length hc] 28)).alloc (by simp) (.cells #[.slice none 0 0, .int .i64 0] 46))
  obtain ⟨W1, hW1⟩ : ∃ X, (w.alloc (.cells #[.int .i64 wd, .int .i64 hg, .slice oa g.length oc, .slice ta T.length tc, .slice ha H.length hc] 28)).alloc (.cells #[.slice none 0 0, .int .i64 0] 46) = X := ⟨_, rfl⟩
  rw [hW1] at HA HB0
  have HW1 := Lib.hid hW1
  have HS1 : Hid (W1.heap.size = w.heap.size + 2) := Lib.hid (by rw [← hW1]; simp)
  have HRD : Hid (∀ W', Below W1.heap.size W1 W' → W'.cell? ⟨w.heap.size, 0, none⟩ = some (.int .i64 wd) ∧ W'.cell? ⟨w.heap.size, 1, none⟩ = some (.int .i64 hg) ∧ W'.cell? ⟨w.heap.size, 2, none⟩ = some (.slice oa g.length oc) ∧ W'.cell? ⟨w.heap.size, 3, none⟩ = some (.slice ta T.length tc) ∧ W'.cell? ⟨w.heap.size, 4, none⟩ = some (.slice ha H.length hc)) := Lib.hid (fun W' h => by
    obtain ⟨m0, _, _, _⟩ := HA.out W' h
    exact ⟨cellH m0 0, cellH m0 1, cellH m0 2, cellH m0 3, cellH m0 4⟩)
  have HF : Hid (∀ (W' : World) (a c : Value), W'.heap[w.heap.size + 1]? = some (.cells #[.slice none 0 0, .int .i64 0] 46 (0, 0)) → Below w.heap.size w W' → ((W'.setCell ⟨w.heap.size + 1, 0, none⟩ a).setCell ⟨w.heap.size + 1, 1, none⟩ c).heap[w.heap.size + 1]? = some (.cells #[a, c] 46 (0, 0)) ∧ Below w.heap.size w ((W'.setCell ⟨w.heap.size + 1, 0, none⟩ a).setCell ⟨w.heap.size + 1, 1, none⟩ c)) := Lib.hid (fun W' a c m1 hb =>
    ⟨heap_same (heap_same m1 0 _) 1 _, (hb.setCell (p := ⟨w.heap.size + 1, 0, none⟩) (by simp) _).setCell (p := ⟨w.heap.size + 1, 1, none⟩) (by simp) _⟩)
  clear hW1 ho ht htc hh hl htl hhl
  unfold coV at HAS
  unfold coV LkOut
  by_cases hE : seE wd hg g T H id rise = 0
  case neg =>
    obtain ⟨E, hEe⟩ : ∃ x, seE wd hg g T H id rise = x := ⟨_, rfl⟩
    rw [hEe] at hE HAS ⊢
    rw [if_neg hE] at HAS
    have HNE := Lib.hid hE
    have qe : (E != 0) = true := by simpa using hE
    clear hE hEe
    go_enter Try.func62, Try.ntmps62
    go_wp2_with fail
    rw [HW1.out]
    obtain ⟨q0, q1, q2, q3, q4⟩ := HRD.out W1 (Below.refl _ _)
    go_wp2_with fail
    refine (HAS.out _ HB0.out).mono ?_
    rintro e w2 ⟨rfl, hb2⟩
    obtain ⟨_, m1, _, hb⟩ := HA.out w2 hb2
    obtain ⟨hr, hbr⟩ := HF.out w2 (.slice none 0 0) (.int .i64 E) m1 hb
    have HR := Lib.hid hr
    have HBR := Lib.hid hbr
    have v0 := cellH m1 0
    have v1 := cellH m1 1
    have vf := freeH m1
    simp at v0 v1
    clear hb2 q0 q1 q2 q3 q4 m1 hb hr hbr
    go_wp2_with fail
    refine bodyPost_ret (results_cell_row Try.results62 _ _ (w.heap.size + 1) 46 #[.slice none 0 0, .int .i64 E] (0, 0) _ rfl HR.out Try.underlying46 rfl info_pcs) rfl ?_
    exact ⟨_, _, _, rfl, HBR.out, fun _ => rfl, fun h => absurd h HNE.out⟩
  obtain ⟨hck, hix, hixl, hct, hri⟩ := ct_get hE
  obtain ⟨hm, _, _, hok, _, _⟩ := ckE_ok hck
  obtain ⟨a1, a2, a3, a4, a5, _⟩ := vmB_ok hm
  rw [hE] at HAS
  rw [if_pos rfl] at HAS
  obtain ⟨ix, hixe⟩ : ∃ n : Nat, twI T id = n := ⟨(twI T id).toNat, by omega⟩
  rw [hixe] at HAS hixl hct
  rw [Int.toNat_natCast] at hixl hct
  have HOK := Lib.hid (hok (T.getD ix .nil) (by rw [getD_tw hixl]; exact List.getElem_mem _))
  obtain ⟨tb, tf, rfl, htb, d0, d1, d2, d3⟩ := HTC.out ix hixl
  rw [hE, hct]
  obtain ⟨⟨ti, tx, ty, th⟩, htt⟩ : ∃ x, T.getD ix .nil = x := ⟨_, rfl⟩
  rw [htt] at d0 d1 d2 d3 HOK ⊢
  simp only at d0 d1 d2 d3
  have HTM : Hid (∀ W', Below w.heap.size w W' → W'.cell? ⟨tb, tf + ix * 4, none⟩ = some (.int .i64 ti) ∧ W'.cell? ⟨tb, tf + ix * 4 + 1, none⟩ = some (.int .i64 tx) ∧ W'.cell? ⟨tb, tf + ix * 4 + 2, none⟩ = some (.int .i64 ty) ∧ W'.cell? ⟨tb, tf + ix * 4 + 3, none⟩ = some (.int .i64 th)) := Lib.hid (fun W' h => ⟨(h.cell (p := ⟨tb, _, none⟩) htb).trans d0, (h.cell (p := ⟨tb, _, none⟩) htb).trans d1, (h.cell (p := ⟨tb, _, none⟩) htb).trans d2, (h.cell (p := ⟨tb, _, none⟩) htb).trans d3⟩)
  obtain ⟨wn, rfl⟩ : ∃ n : Nat, wd = n := ⟨wd.toNat, by omega⟩
  obtain ⟨hn, rfl⟩ : ∃ n : Nat, hg = n := ⟨hg.toNat, by omega⟩
  have hgl : g.length = hn * wn := by
    rw [← Int.natCast_mul] at a5
    rw [Nat.mul_comm]; exact Int.natCast_inj.1 a5
  have HGL := Lib.hid hgl
  have hgm : g.length ≤ 2401 := by
    have : wn * hn ≤ 49 * 49 := Nat.mul_le_mul (by omega) (by omega)
    rw [hgl, Nat.mul_comm]; omega
  have HWH := Lib.hid (fun w' => by have h2 := rwhole_any wn hn (.slice oa g.length oc) w' (by omega) (by omega) ⟨_, _, _, rfl⟩; rw [← hgl] at h2; exact h2)
  have HSE := Lib.hid (fun (k : Nat) (hk : k < g.length) w' (h : Below w.heap.size w w') => by
    have hok := HOK.out
    have h2 := hok.2.2
    unfold wiB at h2
    simp only [Bool.and_eq_true, decide_eq_true_eq] at h2
    exact rsees_any wn hn (.slice oa g.length oc) g ti tx ty th (plI wn k).1 (plI wn k).2 rise w' (HO.out.keep h) hm hok.2.1 (plI_on hm hk) h2 hri)
  have hixi : (ix : Int) < T.length := by omega
  have hix0 : (0 : Int) ≤ ix := by omega
  have HIX := Lib.hid hixi
  have HIX0 := Lib.hid hix0
  clear hE hck hix hixl hct hri hm hok a1 a2 a3 a4 a5 hixe htt d0 d1 d2 d3 htb hgl hixi hix0
  go_enter Try.func62, Try.ntmps62
  go_wp2_with fail
  rw [HW1.out]
  obtain ⟨q0, q1, q2, q3, q4⟩ := HRD.out W1 (Below.refl _ _)
  go_wp2_with fail
  refine (HAS.out _ HB0.out).mono ?_
  rintro e w2 ⟨rfl, hb2⟩
  have HD2 := Lib.hid hb2
  have HB2 := Lib.hid (HB0.out.trans (hb2.mono HB0.out.size))
  clear hb2 q0 q1 q2 q3 q4
  obtain ⟨q0, q1, q2, q3, q4⟩ := HRD.out w2 HD2.out
  go_wp2_with fail
  refine (HWH.out _).mono ?_
  rintro e w5 ⟨v5, rfl, hb5, hown⟩
  have hown2 : w5.ownsRow w2.heap.size 30 2 v5 (plN wn g.length).length ((plN wn g.length).flatMap encP) := by rw [plN_len]; exact hown
  have HPR := Lib.hid (PlRow.of_own hown2)
  have HD5 := Lib.hid (HD2.out.trans (hb5.mono HD2.out.size))
  have HB5 := Lib.hid (HB2.out.trans (hb5.mono HB2.out.size))
  obtain ⟨pa, pc, rfl, hpc⟩ := HPR.out.form
  rw [plN_len] at hpc ⊢
  have HPC := Lib.hid hpc
  obtain ⟨i0, hi0, hz0, hz1, hz2⟩ := info_parts info_pl3
  clear hb5 hown hown2 hpc HPR q0 q1 q2 q3 q4
  go_wp2_with fail
  go_loopw [12, 13] (fun v i wr => ∃ (k : Nat), k ≤ g.length ∧ i = .int .i64 k ∧ Hid (Below w5.heap.size w5 wr) ∧ Hid (wr.ownsRow w5.heap.size 30 2 v (seL wn g ⟨ti, tx, ty, th⟩ rise b k).length ((seL wn g ⟨ti, tx, ty, th⟩ rise b k).flatMap encP))) (fun _ i _ => g.length - (intOf i).toNat)
  case atStart => exact ⟨0, Nat.zero_le _, rfl, Lib.hid (Below.refl _ _), Lib.hid (World.ownsRow_nil _ _ _ _)⟩
  case round =>
    obtain ⟨k, hk, rfl, hB, hO⟩ := hrel
    have HDR := Lib.hid (HD5.out.trans (hB.out.mono HD5.out.size))
    have HBR := Lib.hid (HB5.out.trans (hB.out.mono HB5.out.size))
    by_cases hkl : k < g.length
    · obtain ⟨pb, po, rfl, _, hpb, c0, c1⟩ := HPC.out k hkl
      have hki : (k : Int) < g.length := by omega
      have hk0 : (0 : Int) ≤ k := by omega
      rw [plN_get hkl] at c0 c1
      have HSS := Lib.hid (seL_succ wn g ⟨ti, tx, ty, th⟩ rise b k)
      have HLN := Lib.hid (seL_len wn g ⟨ti, tx, ty, th⟩ rise b k)
      have HSK := Lib.hid (HSE.out k hkl)
      obtain ⟨⟨x, y⟩, hxy⟩ : ∃ q, plI wn k = q := ⟨_, rfl⟩
      rw [hxy] at c0 c1 HSS HSK
      simp only at c0 c1 HSS HSK
      obtain ⟨fb, hfb⟩ : ∃ b, freeB g wn (tx, ty) th (x, y) rise = b := ⟨_, rfl⟩
      rw [hfb] at HSS HSK
      have KA : Hid (∀ W', Below wr.heap.size wr W' → W'.cell? ⟨w.heap.size, 0, none⟩ = some (.int .i64 wn) ∧ W'.cell? ⟨w.heap.size, 1, none⟩ = some (.int .i64 hn) ∧ W'.cell? ⟨w.heap.size, 2, none⟩ = some (.slice oa g.length oc) ∧ W'.cell? ⟨w.heap.size, 3, none⟩ = some (.slice (some ⟨tb, tf, none⟩) T.length tc) ∧ W'.cell? ⟨tb, tf + ix * 4, none⟩ = some (.int .i64 ti) ∧ W'.cell? ⟨tb, tf + ix * 4 + 1, none⟩ = some (.int .i64 tx) ∧ W'.cell? ⟨tb, tf + ix * 4 + 2, none⟩ = some (.int .i64 ty) ∧ W'.cell? ⟨tb, tf + ix * 4 + 3, none⟩ = some (.int .i64 th) ∧ W'.cell? ⟨pb, po + k * 2, none⟩ = some (.int .i64 x) ∧ W'.cell? ⟨pb, po + k * 2 + 1, none⟩ = some (.int .i64 y)) := Lib.hid (fun W' h => by
        obtain ⟨z0, z1, z2, z3, _⟩ := HRD.out W' (HDR.out.trans (h.mono HDR.out.size))
        obtain ⟨z4, z5, z6, z7⟩ := HTM.out W' (HBR.out.trans (h.mono HBR.out.size))
        have hbb := hB.out.trans (h.mono hB.out.size)
        exact ⟨z0, z1, z2, z3, z4, z5, z6, z7, (hbb.cell (p := ⟨pb, _, none⟩) hpb).trans c0, (hbb.cell (p := ⟨pb, _, none⟩) hpb).trans c1⟩)
      have CS : Hid (∀ w', Below wr.heap.size wr w' → Calls Try.prog 65 #[.agg #[.int .i64 wn, .int .i64 hn, .slice oa g.length oc], .agg #[.int .i64 ti, .int .i64 tx, .int .i64 ty, .int .i64 th], .agg #[.int .i64 x, .int .i64 y], .int .i64 rise] w' fun e w'' => e = .returned (.bool fb) ∧ Below wr.heap.size wr w'') := Lib.hid (fun w' h => (HSK.out w' (HBR.out.trans (h.mono HBR.out.size))).mono fun e w'' ⟨he, hh⟩ => ⟨he, h.trans (hh.mono h.size)⟩)
      have hixi := HIX.out
      have hix0 := HIX0.out
      clear hxy hfb c0 c1
      go_wp2_with fail
      refine wp_region_turn 13 (fun _ w' => Below wr.heap.size wr w') (by kernel_rfl) (by kernel_rfl) ((Below.refl _ wr).drew) ?_
      simp only [List.take_succ_cons, List.take_zero, List.drop_succ_cons, List.drop_zero]
      iterate 13
        (first
          | (apply turnC_step (by rfl); (intro w' hw'; go_simp; exact CS.out w' hw'))
          | (apply turnC_step (by rfl); (intro w' hw'; obtain ⟨y0, y1, y2, y3, y4, y5, y6, y7, y8, y9⟩ := KA.out w' hw'; go_simp; first | exact ⟨hw', rfl⟩ | exact rfl)))
        simp only [Act.put, List.setIfInBounds_toArray, List.set_cons_succ, List.set_cons_zero]
      intro listed w6 _ hw6
      have HB6 := Lib.hid (hB.out.trans (hw6.mono hB.out.size))
      have HO6 := Lib.hid (own_below hO.out hw6)
      obtain ⟨_, _, _, _, _, _, _, _, e8, e9⟩ := KA.out w6 hw6
      clear hw6 KA CS hpb hixi hix0
      have hbb : (fb == b) = true ∨ (fb == b) = false := by cases (fb == b) <;> simp
      rcases hbb with hbb | hbb
      · have HN : Hid (seL wn g ⟨ti, tx, ty, th⟩ rise b (k + 1) = seL wn g ⟨ti, tx, ty, th⟩ rise b k ++ [(x, y)]) := Lib.hid (by rw [HSS.out, if_pos hbb])
        obtain ⟨sl, hsl⟩ : ∃ l, seL wn g ⟨ti, tx, ty, th⟩ rise b k = l := ⟨_, rfl⟩
        rw [hsl] at HN HO6 HLN
        have hlen := HLN.out
        have h63 : sl.length + 1 ≤ maxLen := by unfold maxLen; omega
        have hby : (sl.length + 1) * 16 ≤ 140737488355328 := by omega
        have hbase : w5.heap.size ≤ w6.heap.size := HB6.out.size
        have hO6 := HO6.out
        clear hsl hlen
        go_wp2_with (at_builtin; refine wpList_append_own _ rfl _ _ 42 rfl w5.heap.size 30 i0 (.agg #[.int .i64 0, .int .i64 0]) 2 16 Try.underlying42 hi0 hz0 hz1 hz2 rfl (by decide) _ _ _ rfl (World.ownsRow.alloc hO6 _) ⟨w6.heap.size, 0, none⟩ 1 1 [.int .i64 x, .int .i64 y] rfl rfl (fun j u h => cell_two' _ _ _ _ j u h) (by simp [Value.oneCell']) h63 hby (by simp; omega) ?_; intro v' w7 hown' hgrow _)
        have HB7 : Hid (Below w5.heap.size w5 w7) := Lib.hid ((HB6.out.alloc hbase _).grown hgrow (by simp; omega) (fun j e => (World.ownsRow.lt hO6 j e).1))
        have HO7 : Hid (w7.ownsRow w5.heap.size 30 2 v' (seL wn g ⟨ti, tx, ty, th⟩ rise b (k + 1)).length ((seL wn g ⟨ti, tx, ty, th⟩ rise b (k + 1)).flatMap encP)) := Lib.hid (by
          rw [HN.out, List.length_append, List.flatMap_append]; exact hown')
        clear hown' hgrow hO6 e8 e9
        go_wp2_with fail
        go_roundw
        case rel => exact ⟨k + 1, by omega, by go_num, HB7, HO7⟩
        case measure => simp [intOf]; omega
      · have HN : Hid (seL wn g ⟨ti, tx, ty, th⟩ rise b (k + 1) = seL wn g ⟨ti, tx, ty, th⟩ rise b k) := Lib.hid (by rw [HSS.out, if_neg (by rw [hbb]; decide), List.append_nil])
        clear e8 e9
        go_wp2_with fail
        go_roundw
        case rel => exact ⟨k + 1, by omega, by go_num, HB6, Lib.hid (by rw [HN.out]; exact HO6.out)⟩
        case measure => simp [intOf]; omega
    · obtain rfl : k = g.length := by omega
      obtain ⟨sl, hsl⟩ : ∃ l, seL wn g ⟨ti, tx, ty, th⟩ rise b g.length = l := ⟨_, rfl⟩
      rw [hsl] at hO
      have HSL := Lib.hid hsl
      obtain ⟨va, vc, rfl⟩ := row_form hO.out
      obtain ⟨_, m1, hsz, hb⟩ := HA.out wr HDR.out
      obtain ⟨hr, hbr⟩ := HF.out wr (.slice va sl.length vc) (.int .i64 0) m1 hb
      have HR := Lib.hid hr
      have HBF := Lib.hid hbr
      have HOF := Lib.hid (row_set (row_set (own_base hO.out HB5.out.size) m1 (by decide) 0 (.slice va sl.length vc)) (heap_same m1 0 _) (by decide) 1 (.int .i64 0))
      have v0 := cellH m1 0
      have v1 := cellH m1 1
      have vf := freeH m1
      simp at v0 v1
      clear hsl m1 hb hr hbr hsz hkl
      go_wp2_with fail
      refine bodyPost_ret (results_cell_row Try.results62 _ _ (w.heap.size + 1) 46 #[.slice va sl.length vc, .int .i64 0] (0, 0) _ rfl HR.out Try.underlying46 rfl info_pcs) rfl ?_
      exact ⟨_, _, _, rfl, HBF.out, fun h => absurd rfl h, fun _ => by rw [HSL.out]; exact HOF.out⟩
set_option maxRecDepth 100000 in
set_option maxHeartbeats 2000000 in
theorem rSeen_any (wd hg : Int) (o tv hv : Value) (g : List Int) (T : List Tw) (H : List Hz) (id rise : Int) (w : World) (ho : INRow w o g) (hl : g.length ≤ 9223372036854775807) (ht : TwRow w tv T) (htl : T.length ≤ 9223372036854775807) (hh : HzRow w hv H) (hhl : H.length ≤ 9223372036854775807) :
    Calls Try.prog 22 #[coV wd hg o tv hv, .int .i64 id, .int .i64 rise] w fun e w' => LkOut wd hg g T H id rise true w e w' := by
  have HLK := Lib.hid (fun w' (h : Below w.heap.size w w') => rlooked_any wd hg o tv hv g T H id rise true w' (ho.keep h) hl (ht.keep h) htl (hh.keep h) hhl)
  obtain ⟨oa, oc, rfl, _⟩ := ho.form
  obtain ⟨ta, tc, rfl, _⟩ := ht.form
  obtain ⟨ha, hc, rfl, _⟩ := hh.form
  have HA : Hid (∀ W', Below ((w.alloc (.cells #[.int .i64 wd, .int .i64 hg, .slice oa g.length oc, .slice ta T.length tc, .slice ha H.length hc] 28)).alloc (.cells #[.slice none 0 0, .int .i64 0] 46)).heap.size ((w.alloc (.cells #[.int .i64 wd, .int .i64 hg, .slice oa g.length oc, .slice ta T.length tc, .slice ha H.length hc] 28)).alloc (.cells #[.slice none 0 0, .int .i64 0] 46)) W' → W'.heap[w.heap.size]? = some (.cells #[.int .i64 wd, .int .i64 hg, .slice oa g.length oc, .slice ta T.length tc, .slice ha H.length hc] 28 (0, 0)) ∧ W'.heap[w.heap.size + 1]? = some (.cells #[.slice none 0 0, .int .i64 0] 46 (0, 0)) ∧ w.heap.size + 1 < W'.heap.size ∧ Below w.heap.size w W') := Lib.hid (fun W' h => two_cells w _ _ _ _ h)
  have HB0 := Lib.hid (((Below.refl _ w).alloc (Nat.le_refl w.heap.size) (.cells #[.int .i64 wd, .int .i64 hg, .slice oa g.length oc, .slice ta T.length tc, .slice ha H.length hc] 28)).alloc (by simp) (.cells #[.slice none 0 0, .int .i64 0] 46))
  obtain ⟨W1, hW1⟩ : ∃ X, (w.alloc (.cells #[.int .i64 wd, .int .i64 hg, .slice oa g.length oc, .slice ta T.length tc, .slice ha H.length hc] 28)).alloc (.cells #[.slice none 0 0, .int .i64 0] 46) = X := ⟨_, rfl⟩
  rw [hW1] at HA HB0
  have HW1 := Lib.hid hW1
  obtain ⟨m0, _, _, _⟩ := HA.out W1 (Below.refl _ _)
  have q0 := cellH m0 0
  have q1 := cellH m0 1
  have q2 := cellH m0 2
  have q3 := cellH m0 3
  have q4 := cellH m0 4
  simp only [List.getElem?_toArray, List.getElem?_cons_zero, List.getElem?_cons_succ] at q0 q1 q2 q3 q4
  clear hW1 ho ht hh hl htl hhl m0
  unfold coV at HLK
  unfold coV
  go_enter Try.func22, Try.ntmps22
  go_wp2_with fail
  rw [HW1.out]
  go_wp2_with fail
  refine (HLK.out _ HB0.out).mono ?_
  rintro e w2 ⟨va, n, c, rfl, hb2, h1, h2⟩
  obtain ⟨_, m1, hsz, hb⟩ := HA.out w2 hb2
  obtain ⟨E, hEe⟩ : ∃ x, seE wd hg g T H id rise = x := ⟨_, rfl⟩
  have HOUT : Hid (∀ (w3 : World), w3 = (w2.setCell ⟨w.heap.size + 1, 0, none⟩ (.slice va n c)).setCell ⟨w.heap.size + 1, 1, none⟩ (.int .i64 E) → w3.heap[w.heap.size + 1]? = some (.cells #[.slice va n c, .int .i64 E] 46 (0, 0)) ∧ LkOut wd hg g T H id rise true w (.returned (.agg #[.slice va n c, .int .i64 E])) w3) := Lib.hid (fun w3 hw3 => by
    subst hw3
    refine ⟨heap_same (heap_same m1 0 _) 1 _, va, n, c, by rw [hEe], (hb.setCell (p := ⟨w.heap.size + 1, 0, none⟩) (by simp) _).setCell (p := ⟨w.heap.size + 1, 1, none⟩) (by simp) _, h1, fun h => ?_⟩
    exact row_set (row_set (own_base (h2 h) HB0.out.size) m1 (by decide) 0 (.slice va n c)) (heap_same m1 0 _) (by decide) 1 (.int .i64 E))
  rw [hEe]
  have v0 := cellH m1 0
  have v1 := cellH m1 1
  have vf := freeH m1
  simp at v0 v1
  clear hb2 q0 q1 q2 q3 q4 m1 hb h1 h2 hsz hEe
  go_wp2_with fail
  obtain ⟨k1, k2⟩ := HOUT.out _ rfl
  exact bodyPost_ret (results_cell_row Try.results22 _ _ (w.heap.size + 1) 46 #[.slice va n c, .int .i64 E] (0, 0) _ rfl k1 Try.underlying46 rfl info_pcs) rfl k2
set_option maxRecDepth 100000 in
set_option maxHeartbeats 2000000 in
theorem rDead_any (wd hg : Int) (o tv hv : Value) (g : List Int) (T : List Tw) (H : List Hz) (id rise : Int) (w : World) (ho : INRow w o g) (hl : g.length ≤ 9223372036854775807) (ht : TwRow w tv T) (htl : T.length ≤ 9223372036854775807) (hh : HzRow w hv H) (hhl : H.length ≤ 9223372036854775807) :
    Calls Try.prog 24 #[coV wd hg o tv hv, .int .i64 id, .int .i64 rise] w fun e w' => LkOut wd hg g T H id rise false w e w' := by
  have HLK := Lib.hid (fun w' (h : Below w.heap.size w w') => rlooked_any wd hg o tv hv g T H id rise false w' (ho.keep h) hl (ht.keep h) htl (hh.keep h) hhl)
  obtain ⟨oa, oc, rfl, _⟩ := ho.form
  obtain ⟨ta, tc, rfl, _⟩ := ht.form
  obtain ⟨ha, hc, rfl, _⟩ := hh.form
  have HA : Hid (∀ W', Below ((w.alloc (.cells #[.int .i64 wd, .int .i64 hg, .slice oa g.length oc, .slice ta T.length tc, .slice ha H.length hc] 28)).alloc (.cells #[.slice none 0 0, .int .i64 0] 46)).heap.size ((w.alloc (.cells #[.int .i64 wd, .int .i64 hg, .slice oa g.length oc, .slice ta T.length tc, .slice ha H.length hc] 28)).alloc (.cells #[.slice none 0 0, .int .i64 0] 46)) W' → W'.heap[w.heap.size]? = some (.cells #[.int .i64 wd, .int .i64 hg, .slice oa g.length oc, .slice ta T.length tc, .slice ha H.length hc] 28 (0, 0)) ∧ W'.heap[w.heap.size + 1]? = some (.cells #[.slice none 0 0, .int .i64 0] 46 (0, 0)) ∧ w.heap.size + 1 < W'.heap.size ∧ Below w.heap.size w W') := Lib.hid (fun W' h => two_cells w _ _ _ _ h)
  have HB0 := Lib.hid (((Below.refl _ w).alloc (Nat.le_refl w.heap.size) (.cells #[.int .i64 wd, .int .i64 hg, .slice oa g.length oc, .slice ta T.length tc, .slice ha H.length hc] 28)).alloc (by simp) (.cells #[.slice none 0 0, .int .i64 0] 46))
  obtain ⟨W1, hW1⟩ : ∃ X, (w.alloc (.cells #[.int .i64 wd, .int .i64 hg, .slice oa g.length oc, .slice ta T.length tc, .slice ha H.length hc] 28)).alloc (.cells #[.slice none 0 0, .int .i64 0] 46) = X := ⟨_, rfl⟩
  rw [hW1] at HA HB0
  have HW1 := Lib.hid hW1
  obtain ⟨m0, _, _, _⟩ := HA.out W1 (Below.refl _ _)
  have q0 := cellH m0 0
  have q1 := cellH m0 1
  have q2 := cellH m0 2
  have q3 := cellH m0 3
  have q4 := cellH m0 4
  simp only [List.getElem?_toArray, List.getElem?_cons_zero, List.getElem?_cons_succ] at q0 q1 q2 q3 q4
  clear hW1 ho ht hh hl htl hhl m0
  unfold coV at HLK
  unfold coV
  go_enter Try.func24, Try.ntmps24
  go_wp2_with fail
  rw [HW1.out]
  go_wp2_with fail
  refine (HLK.out _ HB0.out).mono ?_
  rintro e w2 ⟨va, n, c, rfl, hb2, h1, h2⟩
  obtain ⟨_, m1, hsz, hb⟩ := HA.out w2 hb2
  obtain ⟨E, hEe⟩ : ∃ x, seE wd hg g T H id rise = x := ⟨_, rfl⟩
  have HOUT : Hid (∀ (w3 : World), w3 = (w2.setCell ⟨w.heap.size + 1, 0, none⟩ (.slice va n c)).setCell ⟨w.heap.size + 1, 1, none⟩ (.int .i64 E) → w3.heap[w.heap.size + 1]? = some (.cells #[.slice va n c, .int .i64 E] 46 (0, 0)) ∧ LkOut wd hg g T H id rise false w (.returned (.agg #[.slice va n c, .int .i64 E])) w3) := Lib.hid (fun w3 hw3 => by
    subst hw3
    refine ⟨heap_same (heap_same m1 0 _) 1 _, va, n, c, by rw [hEe], (hb.setCell (p := ⟨w.heap.size + 1, 0, none⟩) (by simp) _).setCell (p := ⟨w.heap.size + 1, 1, none⟩) (by simp) _, h1, fun h => ?_⟩
    exact row_set (row_set (own_base (h2 h) HB0.out.size) m1 (by decide) 0 (.slice va n c)) (heap_same m1 0 _) (by decide) 1 (.int .i64 E))
  rw [hEe]
  have v0 := cellH m1 0
  have v1 := cellH m1 1
  have vf := freeH m1
  simp at v0 v1
  clear hb2 q0 q1 q2 q3 q4 m1 hb h1 h2 hsz hEe
  go_wp2_with fail
  obtain ⟨k1, k2⟩ := HOUT.out _ rfl
  exact bodyPost_ret (results_cell_row Try.results24 _ _ (w.heap.size + 1) 46 #[.slice va n c, .int .i64 E] (0, 0) _ rfl k1 Try.underlying46 rfl info_pcs) rfl k2
end Go.Proofs.Ytjllkmekchmmbaa
