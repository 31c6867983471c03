/- Theory for CircleTrue: a reading that a possible zero explains lies in its wedge. -/
import Derived.Test.YtebdboacmeafaaaCI0
import Derived.Test.YtebdboacmeafaaaCI3
import Derived.Test.YtebdboacmeafaaaCI7
set_option linter.unusedVariables false
set_option linter.unusedSimpArgs false
namespace Go.Proofs.Ytebdboacmeafaaa
open Go Go.RowKit

/-- What possible zeros are. -/
theorem ft_ok {cs : List Ci} {ks : List Ck} {zc zt : Int} {zl : List Int} (h : (ftR cs ks zc zt zl).2 = true) :
    ∃ z, ciF cs zc = some z ∧ ccE cs ks = 0 ∧ (1 ≤ zl.length ∧ zl.length ≤ 400) ∧ (z.f ≤ zt ∧ zt + ((zl.length : Int) - 1) ≤ z.t) ∧ ctB z.dr (dlL z ks) = false ∧ ∀ j, j < zl.length → fiB z.dr (dlL z ks) zt zl j = true := by
  unfold ftR at h
  split at h
  · rename_i h0
    split at h
    · exact absurd h (by decide)
    · rename_i z hz
      split at h
      · rename_i h1
        split at h
        · exact absurd h (by simp)
        · rename_i h2
          split at h
          · rename_i h3
            rw [Bool.and_eq_true, ci_iff, ci_iff] at h1
            rw [List.find?_eq_none] at h3
            refine ⟨z, hz, h0, by omega, by omega, by simpa using h2, fun j hj => ?_⟩
            have := h3 j (List.mem_range.2 hj)
            simpa using this
          · exact absurd h (by simp)
      · exact absurd h (by decide)
  · exact absurd h (by decide)
/-- A possible zero lies between the bounds at its minute. -/
theorem ft_zr {cs : List Ci} {ks : List Ck} {zc zt : Int} {zl : List Int} (h : (ftR cs ks zc zt zl).2 = true) {k : Nat} (hk : k < zl.length) :
    ∃ z, ciF cs zc = some z ∧ ccE cs ks = 0 ∧ (0 ≤ zt ∧ zt + (k : Int) ≤ 1048576) ∧ zrE cs ks zc (zt + k) = 0 ∧ zrL cs ks zc (zt + k) ≤ zl.getD k 0 ∧ zl.getD k 0 ≤ zrH cs ks zc (zt + k) := by
  obtain ⟨z, hz, h0, h1, h2, h3, h4⟩ := ft_ok h
  have ho := ccE_ok h0
  have hzo := Ci.ok_iff.1 (ciF_ok ho hz)
  have h5 := h4 k hk
  unfold fiB at h5
  rw [Bool.and_eq_true, ci_iff] at h5
  have hzr := zr_of (ks := ks) (t := zt + k) hz
  refine ⟨z, hz, h0, by omega, ?_, ?_, ?_⟩
  · unfold zrE
    rw [if_pos h0, hz]
    show (if ciB (zt + k) z.f z.t = true then (if ctB z.dr (dlL z ks) = true then (9 : Int) else 0) else 1) = 0
    rw [if_pos (ci_iff.2 ⟨by omega, by omega⟩), h3]
    rfl
  · rw [hzr.1]; exact h5.1.1
  · rw [hzr.2]; exact h5.1.2
theorem rw_two {cs : List Ci} {ks : List Ck} {rc rt rs rl : Int} (hz : zrE cs ks rc rt = 0) (hs : 0 ≤ rs ∧ rs ≤ 3599) (hl : 1 ≤ rl ∧ rl ≤ 100) : rwE cs ks rc rt rs rl = 0 ∨ rwE cs ks rc rt rs rl = 50 := by
  have hb : asB rs rl = true := by unfold asB; rw [Bool.and_eq_true, ci_iff, ci_iff]; exact ⟨hs, hl⟩
  have ha : asE cs ks rc rt rs rl = 0 := by unfold asE; rw [if_pos (zr_cc hz), if_pos hb, ← (zy_eq cs ks rc rt).1, hz]
  rw [(rw_known ha).1]
  split
  · exact .inr rfl
  · exact .inl rfl
/-- A reading that can be with a possible zero: the place lies in its wedge. -/
theorem true_ls {cs : List Ci} {ks : List Ck} {zc zt : Int} {zl : List Int} (h : (ftR cs ks zc zt zl).2 = true) {k : Nat} (hk : k < zl.length) {z : Ci} (hz : ciF cs zc = some z) {a b sl S : Int}
    (hb : shB z.x z.y a b (zl.getD k 0) sl = true) (h1 : shLo z.x z.y a b (zl.getD k 0) sl ≤ S) (h2 : S ≤ shHi z.x z.y a b (zl.getD k 0) sl) :
    (rwE cs ks zc (zt + k) (S % 3600) sl = 0 ∨ rwE cs ks zc (zt + k) (S % 3600) sl = 50) ∧ (rwE cs ks zc (zt + k) (S % 3600) sl = 0 → lsB (rwF cs ks zc (zt + k) (S % 3600) sl) (rwT cs ks zc (zt + k) (S % 3600) sl) z.x z.y a b = true) := by
  obtain ⟨z', hz', _, _, hzr, hL, hH⟩ := ft_zr h hk
  rw [hz] at hz'
  cases hz'
  unfold shLo at h1
  unfold shHi at h2
  rw [if_pos hb] at h1 h2
  unfold shB at hb
  rw [Bool.and_eq_true, Bool.and_eq_true, ci_iff, ci_iff] at hb
  obtain ⟨⟨hbr, hz3⟩, hsl⟩ := hb
  obtain ⟨n1, n2, n3⟩ := br_nx hbr
  have e1 := Int.mul_ediv_add_emod S 3600
  have e2 := Int.emod_nonneg S (b := 3600) (by decide)
  have e3 := Int.emod_lt_of_pos S (b := 3600) (by decide)
  refine ⟨rw_two hzr ⟨e2, by omega⟩ hsl, fun h0 => ?_⟩
  rw [sharp_ls h0 hz]
  exact ⟨hbr, zl.getD k 0, ⟨hL, hH⟩, S / 3600, by omega, by omega, by omega⟩
theorem sh_le {x y a b n sl : Int} (hb : shB x y a b n sl = true) : shLo x y a b n sl ≤ shHi x y a b n sl ∧ -400 ≤ shLo x y a b n sl ∧ shHi x y a b n sl ≤ 4000 := by
  unfold shLo shHi
  rw [if_pos hb, if_pos hb]
  unfold shB at hb
  rw [Bool.and_eq_true, Bool.and_eq_true, ci_iff, ci_iff] at hb
  obtain ⟨⟨hbr, hz3⟩, hsl⟩ := hb
  obtain ⟨n1, n2, n3⟩ := br_nx hbr
  omega
end Go.Proofs.Ytebdboacmeafaaa
