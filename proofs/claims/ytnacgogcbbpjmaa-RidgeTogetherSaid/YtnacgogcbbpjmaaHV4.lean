/- Covered of both packages. -/
import Derived.Test.YtnacgogcbbpjmaaHV2
import Derived.Test.YtnacgogcbbpjmaaHS1
import Derived.Test.YtnacgogcbbpjmaaHQ1
set_option linter.unusedVariables false
set_option linter.unusedSimpArgs false
namespace Go.Proofs.Ytnacgogcbbpjmaa
open Go Go.RowKit

/-- The first places that at least so many towers see, by the towers alone. -/
def cvT (tw : Int) (g : List Int) (wd : Int) (T : List Tw) (rise far : Int) : Nat → List Pl
  | 0 => []
  | k + 1 => if tw ≤ ((T.countP fun t => seB g wd t (plI wd k) rise far : Nat) : Int) then cvT tw g wd T rise far k ++ [plI wd k] else cvT tw g wd T rise far k
theorem cvT_len (tw : Int) (g : List Int) (wd : Int) (T : List Tw) (rise far : Int) : ∀ k, (cvT tw g wd T rise far k).length ≤ k
  | 0 => by simp [cvT]
  | k + 1 => by
    have := cvT_len tw g wd T rise far k
    rw [cvT]; split
    · simp; omega
    · omega
theorem ones_wm {g : List Int} {wd : Int} {L T : List Tw} {rise far : Int} (h : Ord L T) (hn : L.length ≤ 12) (k : Nat) : onesN (wmN g wd L rise far k) = T.countP fun t => seB g wd t (plI wd k) rise far := by
  unfold wmN
  rw [onesN_mTo _ hn, ← h.1.countP_eq]
  exact countP_getD L .nil (fun t => seB g wd t (plI wd k) rise far)
theorem cvL_cvT {tw : Int} {g : List Int} {wd : Int} {L T : List Tw} {rise far : Int} (h : Ord L T) (hn : L.length ≤ 12) : ∀ k, cvL tw g wd L rise far k = cvT tw g wd T rise far k
  | 0 => rfl
  | k + 1 => by rw [cvL, cvT, cvL_cvT h hn k, ones_wm h hn k]
theorem cntB_range (f : Nat → Nat → Bool) (k : Nat) : ∀ n, cntB f k n = (List.range n).countP fun i => f i k
  | 0 => by simp [cntB]
  | n + 1 => by
    rw [cntB, cntB_range f k n, List.range_succ, List.countP_append, List.countP_singleton]
    split <;> simp_all
theorem cntB_is {g : List Int} {wd : Int} {T : List Tw} {rise far : Int} (k : Nat) : cntB (fun i k => seB g wd (T.getD i .nil) (plI wd k) rise far) k T.length = T.countP fun t => seB g wd t (plI wd k) rise far := by
  rw [cntB_range]
  exact countP_getD T .nil (fun t => seB g wd t (plI wd k) rise far)
def cwE (wd hg : Int) (g : List Int) (T : List Tw) (H : List Hz) (rise tick tw : Int) : Int := if cvE wd hg g T H rise tick = 0 then (if wiB tw 1 12 = true then 0 else 1) else cvE wd hg g T H rise tick
set_option maxRecDepth 100000 in
set_option maxHeartbeats 8000000 in
theorem Covered_arg (wd hg : Int) (o tv hv : Value) (g : List Int) (T : List Tw) (H : List Hz) (rise tick tw : Int) (w : World) (ho : INRow w o g) (hl : g.length ≤ 9223372036854775807) (ht : TwRow w tv T) (htl : T.length ≤ 9223372036854775807) (hh : HzRow w hv H) (hhl : H.length ≤ 9223372036854775807) (hcv : cvE wd hg g T H rise tick = 0) (htw : wiB tw 1 12 = false) :
    Calls Try.prog 9 #[coV wd hg o tv hv, .int .i64 rise, .int .i64 tick, .int .i64 tw] w fun e w' => e = .returned (.tuple #[.slice none 0 0, .int .i64 1]) ∧ Below w.heap.size w w' := by
  have HCV := Lib.hid (fun w' (h : Below w.heap.size w w') => by have := checkView_any wd hg o tv hv g T H rise tick w' (ho.keep h) hl (ht.keep h) htl (hh.keep h) hhl; rw [hcv] at this; exact this)
  have HWI : Hid (∀ w', Calls Try.prog 36 #[.int .i64 tw, .int .i64 1, .int .i64 12] w' fun e w'' => e = .returned (.bool false) ∧ w'' = w') := Lib.hid (fun w' => by have := within_any tw 1 12 w'; rw [htw] at this; exact this)
  obtain ⟨W1, hW1, hb0, hs1, hrd⟩ := co_reads w wd hg o tv hv
  have HW1 := Lib.hid hW1; have HB0 := Lib.hid hb0; have HRD := Lib.hid hrd
  clear hW1 hb0 hs1 hrd ho ht hh hl htl hhl hcv htw
  unfold coV at HCV
  unfold coV
  go_enter Try.func9, Try.ntmps9
  go_wp2_with fail
  rw [← HW1.out]
  obtain ⟨q0, q1, q2, q3, q4⟩ := HRD.out W1 (Below.refl _ _)
  go_wp2_with fail
  refine (HCV.out _ HB0.out).mono ?_
  rintro e w2 ⟨rfl, hb2⟩
  have HB2 := Lib.hid (HB0.out.trans (hb2.mono HB0.out.size))
  clear hb2 q0 q1 q2 q3 q4
  go_wp2_with fail
  refine (HWI.out _).mono ?_
  rintro e w3 ⟨rfl, rfl⟩
  go_wp2_with fail
  go_ret2
  exact ⟨rfl, HB2.out⟩
theorem Covered_all (wd hg : Int) (o tv hv : Value) (g : List Int) (T : List Tw) (H : List Hz) (rise tick tw : Int) (w : World) (ho : INRow w o g) (hl : g.length ≤ 9223372036854775807) (ht : TwRow w tv T) (htl : T.length ≤ 9223372036854775807) (hh : HzRow w hv H) (hhl : H.length ≤ 9223372036854775807) :
    Calls Try.prog 9 #[coV wd hg o tv hv, .int .i64 rise, .int .i64 tick, .int .i64 tw] w fun e w' => ∃ v', e = .returned (.tuple #[v', .int .i64 (cwE wd hg g T H rise tick tw)]) ∧ Below w.heap.size w w' ∧ (cwE wd hg g T H rise tick tw ≠ 0 → v' = .slice none 0 0) ∧
      (cwE wd hg g T H rise tick tw = 0 → w'.ownsRow w.heap.size 32 2 v' (cvT tw g wd T rise (faO H tick) g.length).length ((cvT tw g wd T rise (faO H tick) g.length).flatMap encP)) := by
  by_cases hcv : cvE wd hg g T H rise tick = 0
  · cases htw : wiB tw 1 12
    · refine (Covered_arg wd hg o tv hv g T H rise tick tw w ho hl ht htl hh hhl hcv htw).mono fun e w' ⟨h1, h2⟩ => ?_
      have hE : cwE wd hg g T H rise tick tw = 1 := by unfold cwE; rw [if_pos hcv, htw]; rfl
      rw [hE]
      exact ⟨_, h1, h2, fun _ => rfl, fun h => by cases h⟩
    · refine (Covered_ok wd hg o tv hv g T H rise tick tw w ho hl ht htl hh hhl hcv htw).mono fun e w' ⟨v', L, h1, h2, h3, h4⟩ => ?_
      have hE : cwE wd hg g T H rise tick tw = 0 := by unfold cwE; rw [if_pos hcv, htw]; rfl
      rw [hE]
      have hn : L.length ≤ 12 := by have h5 := h3.1.length_eq; have h6 := (ckE_ok (cvE_ok hcv).1).2.1; omega
      exact ⟨v', h1, h2, fun h => absurd rfl h, fun _ => by rw [← cvL_cvT h3 hn]; exact h4⟩
  · refine (Covered_bad wd hg o tv hv g T H rise tick tw w ho hl ht htl hh hhl hcv).mono fun e w' ⟨h1, h2⟩ => ?_
    have hE : cwE wd hg g T H rise tick tw = cvE wd hg g T H rise tick := by unfold cwE; rw [if_neg hcv]
    rw [hE]
    exact ⟨_, h1, h2, fun _ => rfl, fun h => absurd h hcv⟩
/-- What the reference's Covered returns. -/
def CwOut (EW tw : Int) (g : List Int) (wd : Int) (T : List Tw) (rise fa : Int) (w : World) (e : Ending) (w' : World) : Prop :=
  ∃ va n c, e = .returned (.agg #[.slice va n c, .int .i64 EW]) ∧ Below w.heap.size w w' ∧ (EW ≠ 0 → Value.slice va n c = .slice none 0 0) ∧
    (EW = 0 → w'.ownsRow w.heap.size 32 2 (.slice va n c) (cvT tw g wd T rise fa g.length).length ((cvT tw g wd T rise fa g.length).flatMap encP))
end Go.Proofs.Ytnacgogcbbpjmaa
