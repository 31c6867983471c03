/- Theory for CircleMore: without some checks no span and no wedge is narrower; with those that Rests names they are the same. -/
import Derived.Test.YtebdboacmeafaaaCH3
import Derived.Test.YtebdboacmeafaaaCI2
set_option linter.unusedVariables false
set_option linter.unusedSimpArgs false
namespace Go.Proofs.Ytebdboacmeafaaa
open Go Go.RowKit

theorem zr_cc {cs : List Ci} {ks : List Ck} {id t : Int} (h : zrE cs ks id t = 0) : ccE cs ks = 0 := by
  unfold zrE at h
  split at h
  · rename_i h1; exact h1
  · rename_i h1; exact absurd h h1
theorem more_as {cs : List Ci} {ks : List Ck} {rc rt rs rl : Int} (hz : zrE cs ks rc rt = 0) (h : rwE cs ks rc rt rs rl = 0 ∨ rwE cs ks rc rt rs rl = 50) : asE cs ks rc rt rs rl = 0 := by
  have hc := zr_cc hz
  have hy : yrE cs ks rc rt = 0 := by rw [← (zy_eq cs ks rc rt).1]; exact hz
  have ha : asE cs ks rc rt rs rl = if asB rs rl = true then 0 else 1 := by unfold asE; rw [if_pos hc, hy]
  by_cases hb : asB rs rl = true
  · rw [ha, if_pos hb]
  · exfalso
    rw [if_neg hb] at ha
    unfold rwE at h
    rw [ha] at h
    simp at h
theorem rw_known {cs : List Ci} {ks : List Ck} {rc rt rs rl : Int} (h : asE cs ks rc rt rs rl = 0) :
    rwE cs ks rc rt rs rl = (if 900 < 2 * rl + zrH cs ks rc rt - zrL cs ks rc rt then 50 else 0) ∧ rwF cs ks rc rt rs rl = (if 900 < 2 * rl + zrH cs ks rc rt - zrL cs ks rc rt then 0 else (rs - rl - zrH cs ks rc rt) % 3600) ∧ rwT cs ks rc rt rs rl = (if 900 < 2 * rl + zrH cs ks rc rt - zrL cs ks rc rt then 0 else (rs + rl - zrL cs ks rc rt) % 3600) := by
  obtain ⟨e1, e2, _⟩ := as_of h
  have h1 : rwE cs ks rc rt rs rl = (if 900 < 2 * rl + zrH cs ks rc rt - zrL cs ks rc rt then 50 else 0) := by
    unfold rwE; rw [if_pos h, e1, e2]
  refine ⟨h1, ?_, ?_⟩
  · unfold rwF
    rw [h1, e2]
    by_cases hw : 900 < 2 * rl + zrH cs ks rc rt - zrL cs ks rc rt
    · rw [if_pos hw, if_pos hw, if_neg (by decide)]
    · rw [if_neg hw, if_neg hw, if_pos rfl]
  · unfold rwT
    rw [h1, e1]
    by_cases hw : 900 < 2 * rl + zrH cs ks rc rt - zrL cs ks rc rt
    · rw [if_pos hw, if_pos hw, if_neg (by decide)]
    · rw [if_neg hw, if_neg hw, if_pos rfl]
theorem op_known {rs rl L H : Int} (h1 : 0 ≤ 2 * rl + H - L) (h2 : ¬ 900 < 2 * rl + H - L) : opI ((rs - rl - H) % 3600) ((rs + rl - L) % 3600) = 2 * rl + H - L := by
  unfold opI
  rw [if_pos (by rw [Bool.and_eq_true, ci_iff, ci_iff]; omega), ← Int.sub_emod, show rs + rl - L - (rs - rl - H) = 2 * rl + H - L by omega, Int.emod_eq_of_lt (by omega) (by omega)]
theorem zr_left {cs : List Ci} {ks : List Ck} {id t : Int} (h : zrE cs ks id t = 0) (p : Int → Bool) : zrE cs (ks.filter fun k => p k.id) id t = 0 := by
  have hc := zr_cc h
  have ho := ccE_ok hc
  have hc2 := ccE_filter hc (fun k => p k.id)
  unfold zrE at h ⊢
  rw [if_pos hc] at h
  rw [if_pos hc2]
  cases hf : ciF cs id with
  | none => rw [hf] at h; exact h
  | some z =>
    rw [hf] at h
    have h' : (if ciB t z.f z.t = true then (if ctB z.dr (dlL z ks) = true then (9 : Int) else 0) else 1) = 0 := h
    show (if ciB t z.f z.t = true then (if ctB z.dr (dlL z (ks.filter fun k => p k.id)) = true then (9 : Int) else 0) else 1) = 0
    by_cases ht : ciB t z.f z.t = true
    · rw [if_pos ht] at h' ⊢
      by_cases hb : ctB z.dr (dlL z ks) = true
      · rw [if_pos hb] at h'; exact absurd h' (by decide)
      · have hcl : clL z.dr (dlL z ks) = [] := by unfold ctB at hb; simpa using hb
        rw [if_neg]
        unfold ctB
        rw [cl_left ho, hcl]
        simp
    · rw [if_neg ht] at h'; exact absurd h' (by decide)
theorem as_left {cs : List Ci} {ks : List Ck} {rc rt rs rl : Int} (hz : zrE cs ks rc rt = 0) (h : asE cs ks rc rt rs rl = 0) (p : Int → Bool) : asE cs (ks.filter fun k => p k.id) rc rt rs rl = 0 := by
  have hb : asB rs rl = true := by
    unfold asE at h
    rw [if_pos (zr_cc hz)] at h
    by_cases hb : asB rs rl = true
    · exact hb
    · rw [if_neg hb] at h; exact absurd h (by decide)
  have hz2 := zr_left hz p
  unfold asE
  rw [if_pos (zr_cc hz2), if_pos hb, ← (zy_eq cs _ rc rt).1, hz2]
/-- Without some checks the span is not narrower, nor is the wedge. -/
theorem more_core {cs : List Ci} {ks : List Ck} {rc rt rs rl : Int} (hz : zrE cs ks rc rt = 0) (hr : rwE cs ks rc rt rs rl = 0 ∨ rwE cs ks rc rt rs rl = 50) (p : Int → Bool) :
    zrE cs (ks.filter fun k => p k.id) rc rt = 0 ∧ zrL cs (ks.filter fun k => p k.id) rc rt ≤ zrL cs ks rc rt ∧ zrH cs ks rc rt ≤ zrH cs (ks.filter fun k => p k.id) rc rt ∧
      (rwE cs (ks.filter fun k => p k.id) rc rt rs rl = 0 → rwE cs ks rc rt rs rl = 0 ∧ opI (rwF cs ks rc rt rs rl) (rwT cs ks rc rt rs rl) ≤ opI (rwF cs (ks.filter fun k => p k.id) rc rt rs rl) (rwT cs (ks.filter fun k => p k.id) rc rt rs rl)) := by
  have ho := ccE_ok (zr_cc hz)
  have ha := more_as hz hr
  have ha2 := as_left hz ha p
  obtain ⟨m1, m2⟩ := zr_mono ho rc rt p
  have hz2 := zr_left hz p
  refine ⟨hz2, m1, m2, fun h0 => ?_⟩
  obtain ⟨k1, k2, k3⟩ := rw_known ha
  obtain ⟨j1, j2, j3⟩ := rw_known ha2
  obtain ⟨_, _, ⟨_, hl⟩, _⟩ := as_of ha
  obtain ⟨_, _, _, hle⟩ := zr_le hz
  rw [h0] at j1
  have hw2 : ¬ 900 < 2 * rl + zrH cs (ks.filter fun k => p k.id) rc rt - zrL cs (ks.filter fun k => p k.id) rc rt := fun hw => by rw [if_pos hw] at j1; exact absurd j1 (by decide)
  have hw1 : ¬ 900 < 2 * rl + zrH cs ks rc rt - zrL cs ks rc rt := by omega
  rw [if_neg hw1] at k1 k2 k3
  rw [if_neg hw2] at j2 j3
  rw [k2, k3, j2, j3, op_known (by omega) hw1, op_known (by omega) hw2]
  exact ⟨k1, by omega⟩
/-- With the checks that Rests names the wedge is the same. -/
theorem more_rest {cs : List Ci} {ks : List Ck} {rc rt rs rl : Int} (hz : zrE cs ks rc rt = 0) (hr : rwE cs ks rc rt rs rl = 0 ∨ rwE cs ks rc rt rs rl = 50) {p : Int → Bool} (hp1 : p (rsLo cs ks rc rt) = true) (hp2 : p (rsHi cs ks rc rt) = true) :
    rwE cs (ks.filter fun k => p k.id) rc rt rs rl = rwE cs ks rc rt rs rl ∧ rwF cs (ks.filter fun k => p k.id) rc rt rs rl = rwF cs ks rc rt rs rl ∧ rwT cs (ks.filter fun k => p k.id) rc rt rs rl = rwT cs ks rc rt rs rl := by
  have ho := ccE_ok (zr_cc hz)
  have ha := more_as hz hr
  have ha2 := as_left hz ha p
  obtain ⟨z, hf, _, _⟩ := zr_le hz
  have e1 : zrL cs (ks.filter fun k => p k.id) rc rt = zrL cs ks rc rt := by
    rw [(zr_of hf).1, (zr_of hf).1]
    refine rest_lo ho z rt (.inl ?_)
    unfold rsLo at hp1
    rw [hf, (zr_of hf).1] at hp1
    exact hp1
  have e2 : zrH cs (ks.filter fun k => p k.id) rc rt = zrH cs ks rc rt := by
    rw [(zr_of hf).2, (zr_of hf).2]
    refine rest_hi ho z rt (.inl ?_)
    unfold rsHi at hp2
    rw [hf, (zr_of hf).2] at hp2
    exact hp2
  obtain ⟨k1, k2, k3⟩ := rw_known ha
  obtain ⟨j1, j2, j3⟩ := rw_known ha2
  rw [e1, e2] at j1 j2 j3
  exact ⟨j1.trans k1.symm, j2.trans k2.symm, j3.trans k3.symm⟩
theorem ck_valid {cs : List Ci} {ks : List Ck} (ho : CcOk cs ks) {k : Nat} (hk : k < ks.length) : ciB (ks.getD k .nil).id 1 1099511627776 = true := by
  obtain ⟨⟨y, hy⟩, _⟩ := ho.ck k hk
  exact ci_iff.2 hy.id
/-- The checks but for two. -/
def idL (ks : List Ck) (a b : Int) : List Int := (ks.map Ck.id).filter fun i => i != a && i != b
theorem idL_step {ks : List Ck} {a b : Int} {k : Nat} (hk : k < ks.length) : idL (ks.take (k + 1)) a b = if ((ks.getD k .nil).id != a && (ks.getD k .nil).id != b) = true then idL (ks.take k) a b ++ [(ks.getD k .nil).id] else idL (ks.take k) a b := by
  unfold idL
  rw [List.take_succ_eq_append_getElem hk, List.map_append, List.filter_append, List.getD_eq_getElem?_getD, List.getElem?_eq_getElem hk]
  simp only [Option.getD_some, List.map_cons, List.map_nil]
  cases h : (ks[k].id != a && ks[k].id != b)
  · rw [List.filter_cons, h]; simp
  · rw [List.filter_cons, h]; simp
theorem idL_len (ks : List Ck) (a b : Int) (k : Nat) : (idL (ks.take k) a b).length ≤ k := by
  unfold idL
  refine Nat.le_trans (List.length_filter_le _ _) ?_
  rw [List.length_map, List.length_take]; omega
theorem idL_not (ks : List Ck) (a b : Int) : (!(idL ks a b).contains a) = true ∧ (!(idL ks a b).contains b) = true := by
  unfold idL
  constructor
  · simp
  · simp
theorem woE_zero {cs : List Ci} {ks : List Ck} {ids : List Int} (h : ccE cs ks = 0) (h2 : ∀ i ∈ ids, ciB i 1 1099511627776 = true) : woE cs ks ids = 0 := by
  unfold woE
  rw [if_pos h, if_pos (List.all_eq_true.2 h2)]
theorem woE_one {cs : List Ci} {ks : List Ck} (h : ccE cs ks = 0) {k : Nat} (hk : k < ks.length) : woE cs ks [(ks.getD k .nil).id] = 0 :=
  woE_zero h (fun i hi => by rw [List.mem_singleton.1 hi]; exact ck_valid (ccE_ok h) hk)
theorem woE_idL {cs : List Ci} {ks : List Ck} (h : ccE cs ks = 0) (a b : Int) : woE cs ks (idL ks a b) = 0 :=
  woE_zero h (fun i hi => by
    obtain ⟨hm, _⟩ := List.mem_filter.1 hi
    obtain ⟨x, hx, rfl⟩ := List.mem_map.1 hm
    obtain ⟨j, hj, hjx⟩ := List.getElem_of_mem hx
    have := ck_valid (ccE_ok h) hj
    rwa [List.getD_eq_getElem?_getD, List.getElem?_eq_getElem hj, Option.getD_some, hjx] at this)
end Go.Proofs.Ytebdboacmeafaaa
