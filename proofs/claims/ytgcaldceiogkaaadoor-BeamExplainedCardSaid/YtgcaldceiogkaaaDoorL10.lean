/- The walk of BeamExplained. -/
import Derived.Test.YtgcaldceiogkaaaDoorL9
import Derived.Test.YtgcaldceiogkaaaDoorS9
namespace Go.Proofs.YtgcaldceiogkaaaDoor
open Go.RowKit Go.Shelf

theorem Pre.from_s {s r : List UInt8} {i j : Nat} {l : List Flt} (h : Pre s r i j l) : ∀ x ∈ r.take j, x ∈ s := by
  have tk : ∀ j, j < r.length → r.take (j + 1) = r.take j ++ [r.getD j 0] := fun j hj => by
    rw [List.take_succ_eq_append_getElem hj, List.getD_eq_getElem?_getD, List.getElem?_eq_getElem hj]; rfl
  have gs : ∀ i, i < s.length → s.getD i 0 ∈ s := fun i hi => by
    rw [List.getD_eq_getElem?_getD, List.getElem?_eq_getElem hi]; exact List.getElem_mem _
  induction h with
  | nil => simp
  | @same i j l h h1 h2 h3 ih =>
    intro x hx
    rw [tk j h2] at hx
    rcases List.mem_append.1 hx with hx | hx
    · exact ih x hx
    · rw [List.mem_singleton.1 hx, ← h3]; exact gs i h1
  | lost h h1 ih => exact ih
  | @twice i j l h h1 h2 h3 h4 ih =>
    intro x hx
    rw [tk (j + 1) h2, tk j (by omega)] at hx
    rcases List.mem_append.1 hx with hx | hx
    · rcases List.mem_append.1 hx with hx | hx
      · exact ih x hx
      · rw [List.mem_singleton.1 hx, ← h3]; exact gs i h1
    · rw [List.mem_singleton.1 hx, ← h4]; exact gs i h1
  | @swap i j l h h1 h2 h3 h4 ih =>
    intro x hx
    rw [tk (j + 1) h2, tk j (by omega)] at hx
    rcases List.mem_append.1 hx with hx | hx
    · rcases List.mem_append.1 hx with hx | hx
      · exact ih x hx
      · rw [List.mem_singleton.1 hx, ← h4]; exact gs (i + 1) h1
    · rw [List.mem_singleton.1 hx, ← h3]; exact gs i (by omega)
/-- What is known where faults that can happen make r of s. -/
theorem made_facts {s r : List UInt8} {l : List Flt} (hf : faultedE s l = 0) (hr : faultedL s l = r) (hl : r.length ≤ 100) :
    bothE s r = 0 ∧ dT s r s.length r.length ≤ s.length ∧ dT s r s.length r.length ≤ l.length ∧ ckE s r l = 0 := by
  have hfs : flashE s 100 = 0 := by
    unfold faultedE at hf; split at hf
    · assumption
    · contradiction
  have hc : canE s.length l = 0 := by unfold faultedE at hf; rwa [if_pos hfs] at hf
  obtain ⟨l', h1, h2⟩ := way_of hc
  rw [hr] at h1
  have hall : r.all flashB = true := by
    rw [List.all_eq_true]
    intro x hx
    have := h1.from_s x (by rw [List.take_length]; exact hx)
    have hs : s.all flashB = true := by
      unfold flashE at hfs
      split at hfs
      · cases hfs
      · split at hfs
        · assumption
        · cases hfs
    exact List.all_eq_true.1 hs x this
  have hfr : flashE r 100 = 0 := by unfold flashE; rw [if_neg (by omega), if_pos hall]
  have hb : bothE s r = 0 := by unfold bothE orI; rw [if_pos hfs]; exact hfr
  have hle := h1.least
  have hbd := h1.bd
  exact ⟨hb, by omega, by omega, by unfold ckE; rw [if_pos hb, if_pos hf, if_pos hr]⟩

set_option maxRecDepth 100000 in
set_option maxHeartbeats 4000000 in
theorem explained_law (sb : ByteArray) (v : Value) (l : List Flt) (W : World) (hG : Glob W) (ms : sb.size ≤ maxLen) (hv : FRow W v l) (hcap : ∀ a n c, v = .slice a n c → n ≤ c) :
    Calls Tryd.prog 7 #[.string sb, v] W fun e w' => e = .returned (.bool true) ∧ Below W.heap.size W w' := by
  obtain ⟨s, rfl⟩ : ∃ s, sb = B s := ⟨_, (B_L sb).symm⟩
  have HG := Lib.hid hG
  have HV := Lib.hid hv
  have MS := Lib.hid ms
  obtain ⟨a, cap, rfl, _⟩ := hv.form
  clear hG hv hcap ms
  by_cases h1 : 100 < s.length
  · have g1 : (100 : Int) < s.length := by omega
    go_enter Tryd.func7, Tryd.ntmps7
    go_wp2_with fail
    refine (head_any _ HG.out).mono ?_
    rintro e v1 ⟨rfl, hb⟩
    have HB := Lib.hid hb
    clear hb
    go_wp2_with fail
    go_ret
    exact ⟨rfl, HB.out⟩
  have g1 : ¬ (100 : Int) < s.length := by omega
  by_cases h3 : 60 < l.length
  · have g3 : (60 : Int) < l.length := by omega
    go_enter Tryd.func7, Tryd.ntmps7
    go_wp2_with fail
    refine (head_any _ HG.out).mono ?_
    rintro e v1 ⟨rfl, hb⟩
    have HB := Lib.hid hb
    clear hb
    go_wp2_with fail
    go_ret
    exact ⟨rfl, HB.out⟩
  have g3 : ¬ (60 : Int) < l.length := by omega
  have mll : l.length ≤ 1000000 := by omega
  by_cases hf : faultedE s l = 0
  · obtain ⟨r, hr⟩ : ∃ r, faultedL s l = r := ⟨_, rfl⟩
    have HF : Hid (faultedV (B s).data.toList l = .tuple #[.string (B r), .int .i64 0]) := Lib.hid (by rw [L_B]; unfold faultedV; rw [if_pos hf, hr])
    by_cases hrl : 100 < r.length
    · have g4 : (100 : Int) < r.length := by omega
      clear hf hr
      go_enter Tryd.func7, Tryd.ntmps7
      go_wp2_with fail
      refine (head_any _ HG.out).mono ?_
      rintro e v1 ⟨rfl, hb⟩
      have HB := Lib.hid hb
      clear hb
      go_wp2_with fail
      refine (faulted_any _ _ l _ MS.out (HV.out.keep HB.out) mll).mono ?_
      rintro e v2 ⟨rfl, hb⟩
      rw [HF.out]
      have HB2 := Lib.hid (HB.out.trans (hb.mono HB.out.size))
      clear hb
      go_wp2_with fail
      go_ret
      exact ⟨rfl, HB2.out⟩
    · have g4 : ¬ (100 : Int) < r.length := by omega
      obtain ⟨hE, hd, hdl, hck⟩ := made_facts hf hr (by omega)
      obtain ⟨t, et⟩ : ∃ t, dT s r s.length r.length = t := ⟨_, rfl⟩
      have hfe : fewE s r = .tuple #[.int .i64 t, .bool true, .int .i64 0] := by
        unfold fewE; rw [if_pos hE]
        show (if dT s r s.length r.length ≤ _ then Value.tuple #[.int .i64 (dT s r s.length r.length), _, _] else _) = _
        rw [if_pos hd, et]
      have HFE : Hid (fewE (B s).data.toList (B r).data.toList = .tuple #[.int .i64 t, .bool true, .int .i64 0]) := Lib.hid (by rw [L_B, L_B]; exact hfe)
      have htl : t ≤ l.length := by omega
      have hqt : decide (t ≤ l.length) = true := decide_eq_true htl
      have HE := Lib.hid hE
      have HD := Lib.hid hd
      have ET := Lib.hid et
      have HCK : Hid (ckE (B s).data.toList r l = 0) := Lib.hid (by rw [L_B]; exact hck)
      have MRB : Hid ((B r).size ≤ maxLen) := Lib.hid (by rw [size_B]; unfold maxLen; omega)
      have MRL : Hid (r.length ≤ maxLen) := Lib.hid (by unfold maxLen; omega)
      clear hf hr hE hd hdl hck et hfe htl
      go_enter Tryd.func7, Tryd.ntmps7
      go_wp2_with fail
      refine (head_any _ HG.out).mono ?_
      rintro e v1 ⟨rfl, hb⟩
      have HB := Lib.hid hb
      clear hb
      go_wp2_with fail
      refine (faulted_any _ _ l _ MS.out (HV.out.keep HB.out) mll).mono ?_
      rintro e v2 ⟨rfl, hb⟩
      rw [HF.out]
      have HB2 := Lib.hid (HB.out.trans (hb.mono HB.out.size))
      clear hb
      go_wp2_with fail
      refine (Fewest_any _ _ _ MS.out MRB.out (HG.out.below HB2.out).parts).mono ?_
      rintro e v3 ⟨rfl, hb⟩
      rw [HFE.out]
      have HB3 := Lib.hid (HB2.out.trans (hb.mono HB2.out.size))
      clear hb
      go_wp2_with fail
      refine (Explain_ok s r _ HE.out (HG.out.below HB3.out).parts).mono ?_
      rintro e v4 ⟨hb, hx⟩
      have HB4 := Lib.hid (HB3.out.trans (hb.mono HB3.out.size))
      clear hb
      rcases hx with ⟨hn, _⟩ | ⟨_, v', l', rfl, hv, hp, hl, hcap⟩
      · exact absurd HD.out hn
      rw [ET.out] at hl
      have hlt : ((l'.length : Int) == t) = true := by simpa using hl
      have HX := Lib.hid hv
      have HCK2 : Hid (ckE (B s).data.toList r l' = 0) := Lib.hid (by rw [L_B]; exact ck_whole HE.out hp)
      have hlb := hp.bd.2.2.2
      have hll : l'.length ≤ 1000000 := by omega
      obtain ⟨a', cap', rfl, _⟩ := hv.form
      clear hv hcap hp hl
      go_wp2_with fail
      refine (CheckFaults_any _ _ _ l' _ MS.out MRL.out HX.out hll).mono ?_
      rintro e v5 ⟨rfl, hb⟩
      rw [HCK2.out]
      have HB5 := Lib.hid (HB4.out.trans (hb.mono HB4.out.size))
      clear hb
      go_wp2_with fail
      refine (CheckFaults_any _ _ _ l _ MS.out MRL.out (HV.out.keep HB5.out) mll).mono ?_
      rintro e v6 ⟨rfl, hb⟩
      rw [HCK.out]
      have HB6 := Lib.hid (HB5.out.trans (hb.mono HB5.out.size))
      clear hb
      go_wp2_with fail
      go_ret
      exact ⟨rfl, HB6.out⟩
  · obtain ⟨q, eq⟩ : ∃ q, faultedE s l = q := ⟨_, rfl⟩
    have HF : Hid (faultedV (B s).data.toList l = .tuple #[.string ⟨#[]⟩, .int .i64 q]) := Lib.hid (by rw [L_B]; unfold faultedV; rw [if_neg hf, eq])
    have hq : (q != 0) = true := by rw [← eq]; simpa using hf
    clear hf eq
    go_enter Tryd.func7, Tryd.ntmps7
    go_wp2_with fail
    refine (head_any _ HG.out).mono ?_
    rintro e v1 ⟨rfl, hb⟩
    have HB := Lib.hid hb
    clear hb
    go_wp2_with fail
    refine (faulted_any _ _ l _ MS.out (HV.out.keep HB.out) mll).mono ?_
    rintro e v2 ⟨rfl, hb⟩
    rw [HF.out]
    have HB2 := Lib.hid (HB.out.trans (hb.mono HB.out.size))
    clear hb
    go_wp2_with fail
    go_ret
    exact ⟨rfl, HB2.out⟩
end Go.Proofs.YtgcaldceiogkaaaDoor
