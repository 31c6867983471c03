/- Index of numbers; Best of package ridge. -/
import Derived.Test.YtjllkmekchmmbaaHP3
import Derived.Test.YtjllkmekchmmbaaHB3
set_option linter.unusedVariables false
set_option linter.unusedSimpArgs false
namespace Go.Proofs.Ytjllkmekchmmbaa
open Go Go.RowKit

/-- The first index of a number, counted from k. -/
def fxF (x : Int) : List Int → Nat → Int
  | [], _ => -1
  | a :: l, k => if a = x then k else fxF x l (k + 1)
set_option maxRecDepth 100000 in
set_option maxHeartbeats 8000000 in
theorem Index_any (v : Value) (l : List Int) (x : Int) (w : World) (hv : INRow w v l) (hl : l.length ≤ 100000) :
    Calls Try.prog 72 #[v, .int .i64 x] w fun e w' => e = .returned (.int .i64 (fxF x l 0)) ∧ Below w.heap.size w w' := by
  obtain ⟨a, cap, rfl, hc⟩ := hv.form
  have HC := Lib.hid hc
  clear hc hv
  go_enter Try.func72, Try.ntmps72
  go_wp2_with fail
  go_loopw [8] (fun i wr => ∃ (k : Nat), k ≤ l.length ∧ i = .int .i64 k ∧ Hid (fxF x l 0 = fxF x (l.drop k) k) ∧ Hid (Below w.heap.size w wr)) (fun i _ => l.length - (intOf i).toNat)
  case atStart => exact ⟨0, Nat.zero_le _, rfl, Lib.hid rfl, Lib.hid (Below.refl _ _)⟩
  case round =>
    obtain ⟨k, hk, rfl, hT, hB⟩ := hrel
    by_cases hkl : k < l.length
    · obtain ⟨b, off, rfl, hb, c0⟩ := HC.out k hkl
      have hki : (k : Int) < l.length := by omega
      have hk0 : (0 : Int) ≤ k := by omega
      have e0 := (hB.out.cell (p := ⟨b, _, none⟩) hb).trans c0
      have hD : Hid (fxF x (l.drop k) k = if l.getD k 0 = x then (k : Int) else fxF x (l.drop (k + 1)) (k + 1)) := Lib.hid (by
        rw [List.getD_eq_getElem?_getD, List.getElem?_eq_getElem hkl, List.drop_eq_getElem_cons hkl]; rfl)
      obtain ⟨y, hy⟩ : ∃ y, l.getD k 0 = y := ⟨_, rfl⟩
      rw [hy] at e0 hD
      clear hy c0 hb
      by_cases hxy : y = x
      · have HN : Hid (fxF x l 0 = k) := Lib.hid (by rw [hT.out, hD.out, if_pos hxy])
        subst hxy
        have qq : (y == y) = true := by simp
        go_wp2_with fail
        go_ret
        exact ⟨by rw [HN.out]; rfl, hB.out⟩
      · have HN : Hid (fxF x l 0 = fxF x (l.drop (k + 1)) (k + 1)) := Lib.hid (by rw [hT.out, hD.out, if_neg hxy])
        have qq : (x == y) = false := by simpa using fun h : x = y => hxy h.symm
        have q2 : (y == x) = false := by simpa using hxy
        go_wp2_with fail
        go_roundw
        case rel => exact ⟨k + 1, by omega, by go_num, HN, hB⟩
        case measure => simp [intOf]; omega
    · obtain rfl : k = l.length := by omega
      have HN : Hid (fxF x l 0 = -1) := Lib.hid (by rw [hT.out, List.drop_length]; rfl)
      go_wp2_with fail
      go_ret
      exact ⟨by rw [HN.out]; rfl, hB.out⟩
/-- The first places that no tower sees, by the towers alone. -/
def nsL (g : List Int) (wd : Int) (T : List Tw) (rise far : Int) : Nat → List Pl
  | 0 => []
  | k + 1 => if (T.any fun t => seB g wd t (plI wd k) rise far) = true then nsL g wd T rise far k else nsL g wd T rise far k ++ [plI wd k]
theorem wmN_zero {g : List Int} {wd : Int} {L T : List Tw} {rise far : Int} {i : Nat} (h : Ord L T) : wmN g wd L rise far i = 0 ↔ ¬ (T.any fun t => seB g wd t (plI wd i) rise far) = true := by
  unfold wmN
  rw [mTo_zero]
  simp only [List.any_eq_true, not_exists, not_and, Bool.not_eq_true]
  constructor
  · intro h1 t ht
    have ht2 := h.1.mem_iff.2 ht
    obtain ⟨j, hj, rfl⟩ := List.getElem_of_mem ht2
    have := h1 j hj
    unfold seI at this
    rwa [getD_tw hj] at this
  · intro h1 j hj
    unfold seI
    rw [getD_tw hj]
    exact h1 _ (h.1.mem_iff.1 (List.getElem_mem _))
theorem dkL_eq {g : List Int} {wd : Int} {L T : List Tw} {rise far : Int} (h : Ord L T) : ∀ k, dkL g wd L rise far k = nsL g wd T rise far k
  | 0 => rfl
  | k + 1 => by
    rw [dkL, nsL, dkL_eq h k]
    by_cases hz : wmN g wd L rise far k = 0
    · rw [if_pos hz, if_neg ((wmN_zero h).1 hz)]
    · rw [if_neg hz, if_pos (by by_cases q : (T.any fun t => seB g wd t (plI wd k) rise far) = true; exact q; exact absurd ((wmN_zero h).2 q) hz)]
theorem nsL_len (g : List Int) (wd : Int) (T : List Tw) (rise far : Int) : ∀ k, (nsL g wd T rise far k).length ≤ k
  | 0 => by simp [nsL]
  | k + 1 => by
    have := nsL_len g wd T rise far k
    rw [nsL]; split
    · omega
    · simp; omega
theorem nsL_on {wd hg : Int} {g : List Int} {T : List Tw} {rise far : Int} (hm : vmB wd hg g = true) : ∀ k, k ≤ g.length → ∀ p ∈ nsL g wd T rise far k, onB wd hg p = true
  | 0, _, p, hp => by simp [nsL] at hp
  | k + 1, hk, p, hp => by
    rw [nsL] at hp
    split at hp
    · exact nsL_on hm k (by omega) p hp
    · rcases List.mem_append.1 hp with hp | hp
      · exact nsL_on hm k (by omega) p hp
      · rw [List.mem_singleton.1 hp]; exact plI_on hm (by omega)

end Go.Proofs.Ytjllkmekchmmbaa
