/- The reference's sees, whole and asked. -/
import Derived.Test.YtnacgogcbbpjmaaHM1
import Derived.Test.YtnacgogcbbpjmaaHE7A
import Derived.Test.YtnacgogcbbpjmaaHL2
set_option linter.unusedVariables false
set_option linter.unusedSimpArgs false
namespace Go.Proofs.Ytnacgogcbbpjmaa
open Go Go.RowKit

set_option maxRecDepth 100000 in
set_option maxHeartbeats 2000000 in
theorem rsees_any (wd hg : Int) (o : Value) (g : List Int) (ti tx ty th x y rise : Int) (w : World) (hv : INRow w o g) (hm : vmB wd hg g = true) (ha : onB wd hg (tx, ty) = true) (hb : onB wd hg (x, y) = true) (hup : 0 ≤ th ∧ th ≤ 200) (hri : 0 ≤ rise ∧ rise ≤ 200) :
    Calls Try.prog 83 #[.agg #[.int .i64 wd, .int .i64 hg, o], .agg #[.int .i64 ti, .int .i64 tx, .int .i64 ty, .int .i64 th], .agg #[.int .i64 x, .int .i64 y], .int .i64 rise] w fun e w' => e = .returned (.bool (freeB g wd (tx, ty) th (x, y) rise)) ∧ Below w.heap.size w w' := by
  have HFI := Lib.hid (fun w' (h : Below w.heap.size w w') => rfirst_any wd hg o g (tx, ty) (x, y) th rise w' (hv.keep h) hm ha hb hup hri)
  have hfm : ∃ c1 c2 : Int, ∀ w', Below w.heap.size w w' → Calls Try.prog 89 #[mpV wd hg o, plV (tx, ty), .int .i64 th, plV (x, y), .int .i64 rise] w' fun e w'' => e = .returned (.tuple #[.agg #[.int .i64 c1, .int .i64 c2], .bool (!freeB g wd (tx, ty) th (x, y) rise)]) ∧ Below w'.heap.size w' w'' := by
    have h := HFI.out
    unfold freeB
    generalize blk g wd (tx, ty) (x, y) (hAt g wd (tx, ty) + th) (hAt g wd (x, y) + rise) = L at h ⊢
    cases L with
    | nil => exact ⟨0, 0, h⟩
    | cons c l => exact ⟨c.1, c.2, h⟩
  clear HFI
  obtain ⟨c1, c2, hf⟩ := hfm
  have HFI := Lib.hid hf
  obtain ⟨oa, oc, rfl, _⟩ := hv.form
  unfold mpV plV at HFI
  simp only at HFI
  have HA : Hid (∀ W', Below (((w.alloc (.cells #[.int .i64 wd, .int .i64 hg, .slice oa g.length oc] 24)).alloc (.cells #[.int .i64 ti, .int .i64 tx, .int .i64 ty, .int .i64 th] 48)).alloc (.cells #[.int .i64 x, .int .i64 y] 32)).heap.size (((w.alloc (.cells #[.int .i64 wd, .int .i64 hg, .slice oa g.length oc] 24)).alloc (.cells #[.int .i64 ti, .int .i64 tx, .int .i64 ty, .int .i64 th] 48)).alloc (.cells #[.int .i64 x, .int .i64 y] 32)) W' → _) := Lib.hid (fun W' h => three_cells w _ _ _ _ _ _ h)
  have HB0 := Lib.hid ((((Below.refl _ w).alloc (Nat.le_refl w.heap.size) (.cells #[.int .i64 wd, .int .i64 hg, .slice oa g.length oc] 24)).alloc (by simp) (.cells #[.int .i64 ti, .int .i64 tx, .int .i64 ty, .int .i64 th] 48)).alloc (by simp; omega) (.cells #[.int .i64 x, .int .i64 y] 32))
  obtain ⟨W1, hW1⟩ : ∃ X, ((w.alloc (.cells #[.int .i64 wd, .int .i64 hg, .slice oa g.length oc] 24)).alloc (.cells #[.int .i64 ti, .int .i64 tx, .int .i64 ty, .int .i64 th] 48)).alloc (.cells #[.int .i64 x, .int .i64 y] 32) = X := ⟨_, rfl⟩
  rw [hW1] at HA HB0
  have HW1 := Lib.hid hW1
  obtain ⟨m0, m1, m2, _, _⟩ := HA.out W1 (Below.refl _ _)
  have q0 := cellH m0 0
  have q1 := cellH m0 1
  have q2 := cellH m0 2
  have r1 := cellH m1 1
  have r2 := cellH m1 2
  have r3 := cellH m1 3
  have s0 := cellH m2 0
  have s1 := cellH m2 1
  simp only [List.getElem?_toArray, List.getElem?_cons_zero, List.getElem?_cons_succ] at q0 q1 q2 r1 r2 r3 s0 s1
  have ead : w.heap.size + 1 + 1 = w.heap.size + 2 := rfl
  obtain ⟨fb, hfb⟩ : ∃ b, freeB g wd (tx, ty) th (x, y) rise = b := ⟨_, rfl⟩
  rw [hfb] at HFI ⊢
  clear hW1 hv hf hfb m0 m1 m2 hm ha hb hup hri
  go_enter Try.func83, Try.ntmps83
  go_wp2_with fail
  rw [HW1.out]
  go_wp2_with fail
  refine (HFI.out _ HB0.out).mono ?_
  rintro e w2 ⟨rfl, hb2⟩
  have HB2 := Lib.hid (HB0.out.trans (hb2.mono HB0.out.size))
  have HB3 := Lib.hid (HB2.out.alloc HB2.out.size (.cells #[.int .i64 c1, .int .i64 c2] 60))
  clear hb2 q0 q1 q2 r1 r2 r3 s0 s1
  go_wp2_with fail
  go_ret
  exact ⟨by simp, HB3.out⟩
theorem plI_at {wn j k : Nat} (h : j < wn) : plI (wn : Int) (k * wn + j) = ((j : Int), (k : Int)) := by
  unfold plI
  have e : ((k * wn + j : Nat) : Int) = (j : Int) + (wn : Int) * k := by
    rw [Int.natCast_add, Int.natCast_mul, Int.mul_comm]; omega
  rw [e, Int.add_mul_emod_self_left, Int.add_mul_ediv_left _ _ (by omega), Int.emod_eq_of_lt (by omega) (by omega), Int.ediv_eq_zero_of_lt (by omega) (by omega), Int.zero_add]
set_option maxRecDepth 100000 in
set_option maxHeartbeats 4000000 in
theorem rwhole_any (wn hn : Nat) (o : Value) (w : World) (hw : 1 ≤ wn ∧ wn ≤ 49) (hh : 1 ≤ hn ∧ hn ≤ 49) (ho : ∃ a n c, o = .slice a n c) :
    Calls Try.prog 34 #[.agg #[.int .i64 wn, .int .i64 hn, o]] w fun e w' => ∃ v', e = .returned v' ∧ Below w.heap.size w w' ∧ w'.ownsRow w.heap.size 32 2 v' (hn * wn) ((plN wn (hn * wn)).flatMap encP) := by
  obtain ⟨oa, on, oc, rfl⟩ := ho
  have HB0 := Lib.hid ((Below.refl _ w).alloc (Nat.le_refl w.heap.size) (.cells #[.int .i64 wn, .int .i64 hn, .slice oa on oc] 24))
  have HR0 : Hid ((w.alloc (.cells #[.int .i64 wn, .int .i64 hn, .slice oa on oc] 24)).heap[w.heap.size]? = some (.cells #[.int .i64 wn, .int .i64 hn, .slice oa on oc] 24 (0, 0))) := Lib.hid (heap_alloc_new _ _)
  obtain ⟨W1, hW1⟩ : ∃ X, w.alloc (.cells #[.int .i64 wn, .int .i64 hn, .slice oa on oc] 24) = X := ⟨_, rfl⟩
  rw [hW1] at HB0 HR0
  have HW1 := Lib.hid hW1
  have HRD : Hid (∀ W', Below W1.heap.size W1 W' → W'.cell? ⟨w.heap.size, 0, none⟩ = some (.int .i64 wn) ∧ W'.cell? ⟨w.heap.size, 1, none⟩ = some (.int .i64 hn)) := Lib.hid (fun W' h => by
    have m0 := (h.block _ (Array.getElem?_eq_some_iff.1 HR0.out).1).trans HR0.out
    exact ⟨cellH m0 0, cellH m0 1⟩)
  obtain ⟨i0, hi0, hz0, hz1, hz2⟩ := info_parts info_pl3
  clear hW1
  go_enter Try.func34, Try.ntmps34
  go_wp2_with fail
  rw [HW1.out]
  go_loopw [3, 4] (fun v y wr => ∃ (k : Nat), k ≤ hn ∧ y = .int .i64 k ∧ Hid (Below W1.heap.size W1 wr) ∧ Hid (wr.ownsRow W1.heap.size 32 2 v (k * wn) ((plN wn (k * wn)).flatMap encP))) (fun _ y _ => hn - (intOf y).toNat)
  case atStart => exact ⟨0, Nat.zero_le _, rfl, Lib.hid (Below.refl _ _), Lib.hid (by rw [Nat.zero_mul]; exact World.ownsRow_nil _ _ _ _)⟩
  case round =>
    obtain ⟨k, hk, rfl, hB, hO⟩ := hrel
    obtain ⟨q0, q1⟩ := HRD.out wr hB.out
    by_cases hkl : k < hn
    · have hki : (k : Int) < hn := by omega
      have hk0 : (0 : Int) ≤ k := by omega
      go_wp2_with fail
      clear q0 q1
      go_loopw [3, 5] (fun v x wr => ∃ (j : Nat), j ≤ wn ∧ x = .int .i64 j ∧ Hid (Below W1.heap.size W1 wr) ∧ Hid (wr.ownsRow W1.heap.size 32 2 v (k * wn + j) ((plN wn (k * wn + j)).flatMap encP))) (fun _ x _ => wn - (intOf x).toNat)
      case atStart => exact ⟨0, Nat.zero_le _, rfl, hB, Lib.hid (by rw [Nat.add_zero]; exact hO.out)⟩
      case round =>
        clear hB hO
        obtain ⟨j, hj, rfl, hB, hO⟩ := hrel
        obtain ⟨q0, q1⟩ := HRD.out wr hB.out
        by_cases hjl : j < wn
        · have hji : (j : Int) < wn := by omega
          have hj0 : (0 : Int) ≤ j := by omega
          have hlen : k * wn + j ≤ 2401 := by
            have : k * wn ≤ 48 * wn := Nat.mul_le_mul_right _ (by omega)
            omega
          have HFL : Hid ((plN wn (k * wn + j + 1)).flatMap encP = (plN wn (k * wn + j)).flatMap encP ++ [.int .i64 j, .int .i64 k]) := Lib.hid (by
            rw [plN_flat, plI_at hjl]; rfl)
          obtain ⟨m, hm⟩ : ∃ m, k * wn + j = m := ⟨_, rfl⟩
          rw [hm] at hO hlen HFL
          have HME := Lib.hid hm
          have h63 : m + 1 ≤ maxLen := by unfold maxLen; omega
          have hby : (m + 1) * 16 ≤ 140737488355328 := by omega
          have hbase : W1.heap.size ≤ wr.heap.size := hB.out.size
          have hO5 := hO.out
          clear hm hlen
          go_wp2_with (at_builtin; refine wpList_append_own _ rfl _ _ 40 rfl W1.heap.size 32 i0 (.agg #[.int .i64 0, .int .i64 0]) 2 16 Try.underlying40 hi0 hz0 hz1 hz2 rfl (by decide) _ _ _ rfl (World.ownsRow.alloc hO5 _) ⟨wr.heap.size, 0, none⟩ 1 1 [.int .i64 j, .int .i64 k] rfl rfl (fun j u h => cell_two' _ _ _ _ j u h) (by simp [Value.oneCell']) h63 hby (by simp; omega) ?_; intro v' w6 hown' hgrow _)
          have HB6 : Hid (Below W1.heap.size W1 w6) := Lib.hid ((hB.out.alloc hbase _).grown hgrow (by simp; omega) (fun j e => (World.ownsRow.lt hO5 j e).1))
          have HO6 : Hid (w6.ownsRow W1.heap.size 32 2 v' (k * wn + (j + 1)) ((plN wn (k * wn + (j + 1))).flatMap encP)) := Lib.hid (by
            rw [show k * wn + (j + 1) = m + 1 by have := HME.out; omega, HFL.out]; exact hown')
          clear hown' hgrow hO5 q0 q1
          go_wp2_with fail
          go_roundw
          case rel => exact ⟨j + 1, by omega, by go_num, HB6, HO6⟩
          case measure => simp [intOf]; omega
        · have HJW : Hid (j = wn) := Lib.hid (by omega)
          have HO6 : Hid (wr.ownsRow W1.heap.size 32 2 u3 ((k + 1) * wn) ((plN wn ((k + 1) * wn)).flatMap encP)) := Lib.hid (by
            have h9 := hO.out
            rw [HJW.out] at h9
            rw [Nat.succ_mul]; exact h9)
          go_wp2_with fail
          go_roundw
          case rel => exact ⟨k + 1, by omega, by go_num, hB, HO6⟩
          case measure => simp [intOf]; omega
    · obtain rfl : k = hn := by omega
      have HBW := Lib.hid (HB0.out.trans (hB.out.mono HB0.out.size))
      go_wp2_with fail
      go_ret
      exact ⟨_, rfl, HBW.out, own_base hO.out HB0.out.size⟩
/-- The first fault of a country, an ID and a height. -/
theorem seE_twI (wd hg : Int) (g : List Int) (T : List Tw) (Z : List Hz) (id rise : Int) : seE wd hg g T Z id rise = if ckE wd hg g T Z = 0 then (if 0 ≤ twI T id then (if wiB rise 0 200 = true then 0 else 1) else 5) else ckE wd hg g T Z := by
  unfold seE ctE
  rw [twF_full]
  by_cases h : ckE wd hg g T Z = 0
  · rw [if_pos h, if_pos h]
    by_cases h2 : 0 ≤ twI T id
    · rw [if_pos h2, if_pos h2]; rfl
    · rw [if_neg h2, if_neg h2]; rfl
  · rw [if_neg h, if_neg h, if_neg h]
end Go.Proofs.Ytnacgogcbbpjmaa

/-! The reference's looked, Seen and Dead. -/
set_option linter.unusedVariables false
set_option linter.unusedSimpArgs false
namespace Go.Proofs.Ytnacgogcbbpjmaa
open Go Go.RowKit

theorem ct_get {wd hg : Int} {g : List Int} {T : List Tw} {Z : List Hz} {id rise : Int} (h : seE wd hg g T Z id rise = 0) : ckE wd hg g T Z = 0 ∧ 0 ≤ twI T id ∧ (twI T id).toNat < T.length ∧ ctT wd hg g T Z id = T.getD (twI T id).toNat .nil ∧ (0 ≤ rise ∧ rise ≤ 200) := by
  rw [seE_twI] at h
  split at h
  case isFalse h1 => exact absurd h h1
  case isTrue h1 =>
    split at h
    case isFalse h2 => cases h
    case isTrue h2 =>
      split at h
      case isFalse h3 => cases h
      case isTrue h3 =>
        refine ⟨h1, h2, twI_bd h2, ?_, by unfold wiB at h3; simpa using h3⟩
        unfold ctT
        rw [if_pos h1, twF_full, if_pos h2]; rfl
/-- The places that a tower sees, or does not, as the reference returns them. -/
def LkOut (wd hg : Int) (g : List Int) (T : List Tw) (H : List Hz) (id rise : Int) (b : Bool) (w : World) (e : Ending) (w' : World) : Prop :=
  ∃ va n c, e = .returned (.agg #[.slice va n c, .int .i64 (seE wd hg g T H id rise)]) ∧ Below w.heap.size w w' ∧ (seE wd hg g T H id rise ≠ 0 → Value.slice va n c = .slice none 0 0) ∧
    (seE wd hg g T H id rise = 0 → w'.ownsRow w.heap.size 32 2 (.slice va n c) (seL wd g (ctT wd hg g T H id) rise b g.length).length ((seL wd g (ctT wd hg g T H id) rise b g.length).flatMap encP))
end Go.Proofs.Ytnacgogcbbpjmaa
