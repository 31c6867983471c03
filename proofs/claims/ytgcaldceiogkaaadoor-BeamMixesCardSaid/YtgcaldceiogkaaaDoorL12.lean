/- The walk of BeamMixes. -/
import Derived.Test.YtgcaldceiogkaaaDoorG0
import Derived.Test.YtgcaldceiogkaaaDoorU4
import Derived.Test.YtgcaldceiogkaaaDoorS1
namespace Go.Proofs.YtgcaldceiogkaaaDoor
open Go.RowKit Go.Shelf

theorem Pre.src {s r : List UInt8} {i j : Nat} {l : List Flt} (h : Pre s r i j l) : ∀ x ∈ r.take j, x ∈ s := by
  have tk : ∀ j, j < r.length → r.take (j + 1) = r.take j ++ [r.getD j 0] := fun j hj => by
    rw [List.take_succ_eq_append_getElem hj, List.getD_eq_getElem?_getD, List.getElem?_eq_getElem hj]; rfl
  have gs : ∀ i, i < s.length → s.getD i 0 ∈ s := fun i hi => by
    rw [List.getD_eq_getElem?_getD, List.getElem?_eq_getElem hi]; exact List.getElem_mem _
  induction h with
  | nil => simp
  | @same i j l h h1 h2 h3 ih =>
    intro x hx
    rw [tk j h2] at hx
    rcases List.mem_append.1 hx with hx | hx
    · exact ih x hx
    · rw [List.mem_singleton.1 hx, ← h3]; exact gs i h1
  | lost h h1 ih => exact ih
  | @twice i j l h h1 h2 h3 h4 ih =>
    intro x hx
    rw [tk (j + 1) h2, tk j (by omega)] at hx
    rcases List.mem_append.1 hx with hx | hx
    · rcases List.mem_append.1 hx with hx | hx
      · exact ih x hx
      · rw [List.mem_singleton.1 hx, ← h3]; exact gs i h1
    · rw [List.mem_singleton.1 hx, ← h4]; exact gs i h1
  | @swap i j l h h1 h2 h3 h4 ih =>
    intro x hx
    rw [tk (j + 1) h2, tk j (by omega)] at hx
    rcases List.mem_append.1 hx with hx | hx
    · rcases List.mem_append.1 hx with hx | hx
      · exact ih x hx
      · rw [List.mem_singleton.1 hx, ← h4]; exact gs (i + 1) h1
    · rw [List.mem_singleton.1 hx, ← h3]; exact gs i (by omega)
theorem signal_brief {w : List UInt8} (h4 : w.length ≤ 4) : (signalL w).length ≤ 43 := by
  have := flashL_length (textL w)
  have h2 := textL_length w
  unfold signalL
  simp only [List.length_append, List.length_cons, List.length_nil]
  omega
/-- Fewest of a word's signal and what it can become. -/
theorem few_res {w : List UInt8} (hw : wordB w = true) (h4 : w.length ≤ 4) {n : Nat} (hn : n ≤ 2) {x : List UInt8} (hx : x ∈ resL (signalL w) n) :
    x.length ≤ 100 ∧ ∃ t : Int, t ≤ n ∧ fewE (signalL w) x = .tuple #[.int .i64 t, .bool true, .int .i64 0] := by
  obtain ⟨l, h1, h2⟩ := out_sound (((tidy_strict (outL (signalL w) n)).2 x).1 hx)
  have hb := signal_brief h4
  have hlen := h1.len
  have hall : x.all flashB = true := by
    rw [List.all_eq_true]
    intro y hy
    have := h1.src y (by rw [List.take_length]; exact hy)
    have hs := signal_flash hw
    have hs2 : (signalL w).all flashB = true := by
      unfold flashE at hs
      split at hs
      · cases hs
      · split at hs
        · assumption
        · cases hs
    exact List.all_eq_true.1 hs2 y this
  have hfx : flashE x 100 = 0 := by unfold flashE; rw [if_neg (by omega), if_pos hall]
  have hE : bothE (signalL w) x = 0 := by unfold bothE orI; rw [if_pos (signal_flash hw)]; exact hfx
  have hle := h1.least
  have hbd := h1.bd
  refine ⟨by omega, dT (signalL w) x (signalL w).length x.length, by omega, ?_⟩
  unfold fewE; rw [if_pos hE]
  show (if dT (signalL w) x (signalL w).length x.length ≤ _ then Value.tuple #[.int .i64 (dT (signalL w) x (signalL w).length x.length), _, _] else _) = _
  rw [if_pos (by omega)]
theorem conf_symm (a b : List UInt8) (n : Nat) : confO a b n = confO b a n := share_symm (tidy_strict _).1 (tidy_strict _).1
theorem conf_more {a b : List UInt8} {n : Nat} (h : confO a b n ≠ none) : confO a b (n + 1) ≠ none := by
  have key : ∀ s : List UInt8, ∀ x ∈ resL s n, x ∈ resL s (n + 1) := fun s x hx =>
    ((tidy_strict (outL s (n + 1))).2 x).2 (walk_mono s n 0 [] x (((tidy_strict (outL s n)).2 x).1 hx))
  exact share_more h (key _) (key _)

set_option maxRecDepth 100000 in
set_option maxHeartbeats 4000000 in
theorem mixes_law (ab bb : ByteArray) (c : UInt8) (W : World) (hG : Glob W) (ma : ab.size ≤ maxLen) (mb : bb.size ≤ maxLen) :
    Calls Tryd.prog 8 #[.string ab, .string bb, .int .u8 c.toNat] W fun e w' => e = .returned (.bool true) ∧ Below W.heap.size W w' := by
  obtain ⟨a, rfl⟩ : ∃ s, ab = B s := ⟨_, (B_L ab).symm⟩
  obtain ⟨b, rfl⟩ : ∃ s, bb = B s := ⟨_, (B_L bb).symm⟩
  have HG := Lib.hid hG
  have MA := Lib.hid ma
  have MB := Lib.hid mb
  have MAL : Hid (a.length ≤ maxLen) := Lib.hid (by rwa [size_B] at ma)
  have MBL : Hid (b.length ≤ maxLen) := Lib.hid (by rwa [size_B] at mb)
  clear hG ma mb
  by_cases h1 : 4 < a.length
  · have g1 : (4 : Int) < a.length := by omega
    go_enter Tryd.func8, Tryd.ntmps8
    go_wp2_with fail
    refine (head_any _ HG.out).mono ?_
    rintro e v1 ⟨rfl, hb⟩
    have HB := Lib.hid hb
    clear hb
    go_wp2_with fail
    go_ret
    exact ⟨rfl, HB.out⟩
  have g1 : ¬ (4 : Int) < a.length := by omega
  by_cases h2 : 4 < b.length
  · have g2 : (4 : Int) < b.length := by omega
    go_enter Tryd.func8, Tryd.ntmps8
    go_wp2_with fail
    refine (head_any _ HG.out).mono ?_
    rintro e v1 ⟨rfl, hb⟩
    have HB := Lib.hid hb
    clear hb
    go_wp2_with fail
    go_ret
    exact ⟨rfl, HB.out⟩
  have g2 : ¬ (4 : Int) < b.length := by omega
  have hc1 : c.toNat ≤ 255 := by have := c.toNat_lt; omega
  obtain ⟨cn, hcn⟩ : ∃ cn, c.toNat = cn := ⟨_, rfl⟩
  rw [hcn] at hc1 ⊢
  clear hcn
  have hcb : (cn : Int) ≤ 255 := by omega
  have hc0 : (0 : Int) ≤ cn := by omega
  obtain ⟨m, hm⟩ : ∃ m : Nat, (cn : Int) % 3 = m := ⟨cn % 3, by omega⟩
  have hm2 : m ≤ 2 := by omega
  have hm2i : (m : Int) ≤ 2 := by omega
  by_cases hw : wordB a = true ∧ wordB b = true
  · obtain ⟨hwa, hwb⟩ := hw
    have HWA := Lib.hid hwa
    have HWB := Lib.hid hwb
    have SA : Hid (signalV (B a).data.toList = .tuple #[.string (B (signalL a)), .int .i64 0]) := Lib.hid (by rw [L_B]; unfold signalV; rw [if_pos hwa])
    have SB : Hid (signalV (B b).data.toList = .tuple #[.string (B (signalL b)), .int .i64 0]) := Lib.hid (by rw [L_B]; unfold signalV; rw [if_pos hwb])
    have HSY := Lib.hid (conf_symm b a m)
    cases ho : confO a b m with
    | none =>
      have HC : Hid (confV (confO a b m) = .tuple #[.string ⟨#[]⟩, .bool false, .int .i64 0]) := Lib.hid (by rw [ho]; rfl)
      clear hwa hwb ho
      go_enter Tryd.func8, Tryd.ntmps8
      go_wp2_with fail
      refine (head_any _ HG.out).mono ?_
      rintro e v1 ⟨rfl, hb⟩
      have HB := Lib.hid hb
      clear hb
      go_wp2_with fail
      refine (Confused_ok a b m _ HWA.out HWB.out hm2 (HG.out.below HB.out).env).mono ?_
      rintro e v2 ⟨rfl, hb⟩
      rw [HC.out]
      have HB2 := Lib.hid (HB.out.trans (hb.mono HB.out.size))
      clear hb
      go_wp2_with fail
      refine (Confused_ok b a m _ HWB.out HWA.out hm2 (HG.out.below HB2.out).env).mono ?_
      rintro e v3 ⟨rfl, hb⟩
      rw [HSY.out, HC.out]
      have HB3 := Lib.hid (HB2.out.trans (hb.mono HB2.out.size))
      clear hb
      go_wp2_with fail
      go_ret
      exact ⟨rfl, HB3.out⟩
    | some x =>
      have HC : Hid (confV (confO a b m) = .tuple #[.string (B x), .bool true, .int .i64 0]) := Lib.hid (by rw [ho]; rfl)
      obtain ⟨x1, x2⟩ := share_mem ho
      obtain ⟨hxl, t1, ht1, hf1⟩ := few_res hwa (by omega) hm2 x1
      obtain ⟨_, t2, ht2, hf2⟩ := few_res hwb (by omega) hm2 x2
      have F1 : Hid (fewE (B (signalL a)).data.toList (B x).data.toList = .tuple #[.int .i64 t1, .bool true, .int .i64 0]) := Lib.hid (by rw [L_B, L_B]; exact hf1)
      have F2 : Hid (fewE (B (signalL b)).data.toList (B x).data.toList = .tuple #[.int .i64 t2, .bool true, .int .i64 0]) := Lib.hid (by rw [L_B, L_B]; exact hf2)
      have q1 : decide ((m : Int) < t1) = false := decide_eq_false (by omega)
      have q2 : decide ((m : Int) < t2) = false := decide_eq_false (by omega)
      have MX : Hid ((B x).size ≤ maxLen) := Lib.hid (by rw [size_B]; unfold maxLen; omega)
      have MSA : Hid ((B (signalL a)).size ≤ maxLen) := Lib.hid (by rw [size_B]; have := signal_brief (w := a) (by omega); unfold maxLen; omega)
      have MSB : Hid ((B (signalL b)).size ≤ maxLen) := Lib.hid (by rw [size_B]; have := signal_brief (w := b) (by omega); unfold maxLen; omega)
      obtain ⟨y, hy⟩ : ∃ y, confO a b (m + 1) = some y := Option.ne_none_iff_exists'.1 (conf_more (by rw [ho]; simp))
      have HC2 : Hid (confV (confO a b (m + 1)) = .tuple #[.string (B y), .bool true, .int .i64 0]) := Lib.hid (by rw [hy]; rfl)
      obtain ⟨sa, esa⟩ : ∃ sa, signalL a = sa := ⟨_, rfl⟩
      obtain ⟨sb, esb⟩ : ∃ sb, signalL b = sb := ⟨_, rfl⟩
      rw [esa] at SA F1 MSA
      rw [esb] at SB F2 MSB
      clear hwa hwb ho x1 x2 hf1 hf2 hy esa esb ht1 ht2
      by_cases hm1 : m < 2
      · have hm1i : (m : Int) < 2 := by omega
        have HCO : Hid (∀ W', Env W' → Calls Tryd.prog 25 #[.string (B a), .string (B b), .int .i64 ((m : Int) + 1)] W' fun e w' => e = .returned (confV (confO a b (m + 1))) ∧ Below W'.heap.size W' w') := Lib.hid (fun W' hW => by
          have := Confused_ok a b (m + 1) W' HWA.out HWB.out (by omega) hW
          rwa [Int.natCast_add] at this)
        go_enter Tryd.func8, Tryd.ntmps8
        go_wp2_with fail
        refine (head_any _ HG.out).mono ?_
        rintro e v1 ⟨rfl, hb⟩
        have HB := Lib.hid hb
        clear hb
        go_wp2_with fail
        refine (Confused_ok a b m _ HWA.out HWB.out hm2 (HG.out.below HB.out).env).mono ?_
        rintro e v2 ⟨rfl, hb⟩
        rw [HC.out]
        have HB2 := Lib.hid (HB.out.trans (hb.mono HB.out.size))
        clear hb
        go_wp2_with fail
        refine (Confused_ok b a m _ HWB.out HWA.out hm2 (HG.out.below HB2.out).env).mono ?_
        rintro e v3 ⟨rfl, hb⟩
        rw [HSY.out, HC.out]
        have HB3 := Lib.hid (HB2.out.trans (hb.mono HB2.out.size))
        clear hb
        go_wp2_with fail
        refine (signal_any _ _ MA.out (HG.out.below HB3.out).env.1 (HG.out.below HB3.out).env.2).mono ?_
        rintro e v4 ⟨rfl, hb⟩
        rw [SA.out]
        have HB4 := Lib.hid (HB3.out.trans (hb.mono HB3.out.size))
        clear hb
        go_wp2_with fail
        refine (signal_any _ _ MB.out (HG.out.below HB4.out).env.1 (HG.out.below HB4.out).env.2).mono ?_
        rintro e v5 ⟨rfl, hb⟩
        rw [SB.out]
        have HB5 := Lib.hid (HB4.out.trans (hb.mono HB4.out.size))
        clear hb
        go_wp2_with fail
        refine (Fewest_any _ _ _ MSA.out MX.out (HG.out.below HB5.out).parts).mono ?_
        rintro e v6 ⟨rfl, hb⟩
        rw [F1.out]
        have HB6 := Lib.hid (HB5.out.trans (hb.mono HB5.out.size))
        clear hb
        go_wp2_with fail
        refine (Fewest_any _ _ _ MSB.out MX.out (HG.out.below HB6.out).parts).mono ?_
        rintro e v7 ⟨rfl, hb⟩
        rw [F2.out]
        have HB7 := Lib.hid (HB6.out.trans (hb.mono HB6.out.size))
        clear hb
        go_wp2_with fail
        refine (HCO.out _ (HG.out.below HB7.out).env).mono ?_
        rintro e v8 ⟨rfl, hb⟩
        rw [HC2.out]
        have HB8 := Lib.hid (HB7.out.trans (hb.mono HB7.out.size))
        clear hb
        go_wp2_with fail
        go_ret
        exact ⟨rfl, HB8.out⟩
      · have hm1i : ¬ (m : Int) < 2 := by omega
        go_enter Tryd.func8, Tryd.ntmps8
        go_wp2_with fail
        refine (head_any _ HG.out).mono ?_
        rintro e v1 ⟨rfl, hb⟩
        have HB := Lib.hid hb
        clear hb
        go_wp2_with fail
        refine (Confused_ok a b m _ HWA.out HWB.out hm2 (HG.out.below HB.out).env).mono ?_
        rintro e v2 ⟨rfl, hb⟩
        rw [HC.out]
        have HB2 := Lib.hid (HB.out.trans (hb.mono HB.out.size))
        clear hb
        go_wp2_with fail
        refine (Confused_ok b a m _ HWB.out HWA.out hm2 (HG.out.below HB2.out).env).mono ?_
        rintro e v3 ⟨rfl, hb⟩
        rw [HSY.out, HC.out]
        have HB3 := Lib.hid (HB2.out.trans (hb.mono HB2.out.size))
        clear hb
        go_wp2_with fail
        refine (signal_any _ _ MA.out (HG.out.below HB3.out).env.1 (HG.out.below HB3.out).env.2).mono ?_
        rintro e v4 ⟨rfl, hb⟩
        rw [SA.out]
        have HB4 := Lib.hid (HB3.out.trans (hb.mono HB3.out.size))
        clear hb
        go_wp2_with fail
        refine (signal_any _ _ MB.out (HG.out.below HB4.out).env.1 (HG.out.below HB4.out).env.2).mono ?_
        rintro e v5 ⟨rfl, hb⟩
        rw [SB.out]
        have HB5 := Lib.hid (HB4.out.trans (hb.mono HB4.out.size))
        clear hb
        go_wp2_with fail
        refine (Fewest_any _ _ _ MSA.out MX.out (HG.out.below HB5.out).parts).mono ?_
        rintro e v6 ⟨rfl, hb⟩
        rw [F1.out]
        have HB6 := Lib.hid (HB5.out.trans (hb.mono HB5.out.size))
        clear hb
        go_wp2_with fail
        refine (Fewest_any _ _ _ MSB.out MX.out (HG.out.below HB6.out).parts).mono ?_
        rintro e v7 ⟨rfl, hb⟩
        rw [F2.out]
        have HB7 := Lib.hid (HB6.out.trans (hb.mono HB6.out.size))
        clear hb
        go_wp2_with fail
        go_ret
        exact ⟨rfl, HB7.out⟩
  · have hno : wordB a = false ∨ wordB b = false := by
      cases ha : wordB a
      · exact .inl rfl
      · cases hb : wordB b
        · exact .inr rfl
        · exact absurd ⟨ha, hb⟩ hw
    have HNO := Lib.hid hno
    have HNO2 := Lib.hid hno.symm
    clear hno hw
    go_enter Tryd.func8, Tryd.ntmps8
    go_wp2_with fail
    refine (head_any _ HG.out).mono ?_
    rintro e v1 ⟨rfl, hb⟩
    have HB := Lib.hid hb
    clear hb
    go_wp2_with fail
    refine (Confused_no a b _ _ MAL.out MBL.out HNO.out).mono ?_
    rintro e w' ⟨rfl, rfl⟩
    go_wp2_with fail
    refine (Confused_no b a _ _ MBL.out MAL.out HNO2.out).mono ?_
    rintro e w' ⟨rfl, rfl⟩
    go_wp2_with fail
    go_ret
    exact ⟨rfl, HB.out⟩
end Go.Proofs.YtgcaldceiogkaaaDoor
