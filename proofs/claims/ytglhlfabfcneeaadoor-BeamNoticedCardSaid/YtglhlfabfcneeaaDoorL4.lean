/- The walk of BeamNoticed. -/
import Derived.Test.YtglhlfabfcneeaaDoorG0
import Derived.Test.YtglhlfabfcneeaaDoorS2
import Derived.Test.YtglhlfabfcneeaaDoorS5
import Derived.Test.YtglhlfabfcneeaaDoorL3
namespace Go.Proofs.YtglhlfabfcneeaaDoor
open Go.RowKit Go.Shelf

theorem fr_one (w : World) (a b : Int) (t : TypeId) : FRow (w.alloc (.cells #[.int .i64 a, .int .i64 b] t)) (.slice (some ⟨w.heap.size, 0, none⟩) 1 1) [(a, b)] := by
  refine .inr ⟨_, 0, 1, rfl, by simp, fun i hi => ?_⟩
  obtain rfl : i = 0 := by simp at hi; omega
  exact ⟨by rw [World.cell?_alloc_new]; rfl, by rw [World.cell?_alloc_new]; rfl⟩
theorem fault_cases (w : List UInt8) (f : Flt) (hw : wordB w = true) :
    (∃ (p : ByteArray) (e : Int), e ≠ 0 ∧ faultedV (signalL w) [f] = .tuple #[.string p, .int .i64 e]) ∨
    (∃ r : List UInt8, r.length ≤ 200 ∧ faultedV (signalL w) [f] = .tuple #[.string (B r), .int .i64 0] ∧ (signalL w = r ∨ ∃ (p : ByteArray) (e : Int), e ≠ 0 ∧ readV r = .tuple #[.string p, .int .i64 e])) := by
  unfold faultedV
  by_cases h : faultedE (signalL w) [f] = 0
  · rw [if_pos h]
    refine .inr ⟨_, by have := faultedK_length (signalL w) [f] (signalL w).length; have := signal_length hw; unfold faultedL; omega, rfl, ?_⟩
    rcases read_cases (faultedL (signalL w) [f]) with ⟨x, hx, hs, _⟩ | hbad
    · refine .inl ?_
      have hc : canE (signalL w).length [f] = 0 := by unfold faultedE at h; rwa [if_pos (signal_flash hw)] at h
      rw [← hs]; exact (noticed_plain hw hx hc hs).symm
    · exact .inr hbad
  · rw [if_neg h]; exact .inl ⟨_, _, h, rfl⟩

set_option maxRecDepth 100000 in
set_option maxHeartbeats 4000000 in
theorem noticed_law (w : ByteArray) (a b : Int) (W : World) (hG : Glob W) (mw : w.size ≤ maxLen) :
    Calls Tryd.prog 11 #[.string w, .agg #[.int .i64 a, .int .i64 b]] W fun e w' => e = .returned (.bool true) ∧ Below W.heap.size W w' := by
  have hb0 : Below W.heap.size W (W.alloc (.cells #[.int .i64 a, .int .i64 b] 48)) := (Below.refl _ W).alloc (Nat.le_refl _) _
  have HG := Lib.hid (hG.below hb0)
  have HG0 := Lib.hid hG
  have HB0 := Lib.hid hb0
  clear hG hb0
  obtain ⟨wl, rfl⟩ : ∃ wl, w = B wl := ⟨_, (B_L w).symm⟩
  by_cases h60 : 60 < wl.length
  · have g1 : (60 : Int) < wl.length := by omega
    go_enter Tryd.func11, Tryd.ntmps11
    go_wp2_with fail
    refine (head_any _ HG.out).mono ?_
    rintro e v1 ⟨rfl, hb⟩
    have HB := Lib.hid (HB0.out.trans (hb.mono (by simp)))
    clear hb
    go_wp2_with fail
    go_ret
    exact ⟨rfl, HB.out⟩
  · have g1 : ¬ (60 : Int) < wl.length := by omega
    cases hw : wordB wl
    · have S1 : Hid (signalV (B wl).data.toList = .tuple #[.string ⟨#[]⟩, .int .i64 7]) := Lib.hid (by rw [L_B]; exact signalV_no hw)
      clear hw
      go_enter Tryd.func11, Tryd.ntmps11
      go_wp2_with fail
      refine (head_any _ HG.out).mono ?_
      rintro e v1 ⟨rfl, hb⟩
      have HB := Lib.hid (HB0.out.trans (hb.mono (by simp)))
      clear hb
      go_wp2_with fail
      refine (signal_any _ _ mw (HG0.out.below HB.out).env.1 (HG0.out.below HB.out).env.2).mono ?_
      rintro e v2 ⟨rfl, hb⟩
      rw [S1.out]
      have HB2 := Lib.hid (HB.out.trans (hb.mono HB.out.size))
      clear hb
      go_wp2_with fail
      go_ret
      exact ⟨rfl, HB2.out⟩
    · have hfc := fault_cases wl (a, b) hw
      have ml : (signalL wl).length ≤ 100 := signal_length hw
      obtain ⟨sl, es⟩ : ∃ sl, signalL wl = sl := ⟨_, rfl⟩
      rw [es] at hfc ml
      have S1 : Hid (signalV (B wl).data.toList = .tuple #[.string (B sl), .int .i64 0]) := Lib.hid (by rw [L_B, signalV_ok hw, es])
      have ms : (B sl).size ≤ maxLen := by rw [size_B]; unfold maxLen; omega
      have MS := Lib.hid ms
      clear hw es ms ml
      rcases hfc with ⟨p, e, he, hf⟩ | ⟨r, hrl, hf, hr⟩
      · have F1 : Hid (faultedV (B sl).data.toList [(a, b)] = .tuple #[.string p, .int .i64 e]) := Lib.hid (by rw [L_B]; exact hf)
        have q : (e != 0) = true := by simpa using he
        clear hf he
        go_enter Tryd.func11, Tryd.ntmps11
        go_wp2_with fail
        refine (head_any _ HG.out).mono ?_
        rintro e v1 ⟨rfl, hb⟩
        have c0 := (hb.cell (p := ⟨W.heap.size, 0, none⟩) (by simp)).trans (show _ = some (.int .i64 a) by go_simp)
        have c1 := (hb.cell (p := ⟨W.heap.size, 1, none⟩) (by simp)).trans (show _ = some (.int .i64 b) by go_simp)
        have hz : W.heap.size < v1.heap.size := Nat.lt_of_lt_of_le (by simp) hb.size
        have HB := Lib.hid (HB0.out.trans (hb.mono (by simp)))
        clear hb
        go_wp2_with fail
        refine (signal_any _ _ mw (HG0.out.below HB.out).env.1 (HG0.out.below HB.out).env.2).mono ?_
        rintro e v2 ⟨rfl, hb⟩
        rw [S1.out]
        have c0 := (hb.cell (p := ⟨W.heap.size, 0, none⟩) hz).trans c0
        have c1 := (hb.cell (p := ⟨W.heap.size, 1, none⟩) hz).trans c1
        have HB2 := Lib.hid (HB.out.trans (hb.mono HB.out.size))
        clear hb hz
        go_wp2_with fail
        refine (faulted_any _ _ _ _ MS.out (fr_one _ _ _ _) (by simp)).mono ?_
        rintro e v3 ⟨rfl, hb⟩
        rw [F1.out]
        have HB3 := Lib.hid ((HB2.out.alloc HB2.out.size _).trans (hb.mono (by have := HB2.out.size; simp; omega)))
        clear hb
        go_wp2_with fail
        go_ret
        exact ⟨rfl, HB3.out⟩
      · have F1 : Hid (faultedV (B sl).data.toList [(a, b)] = .tuple #[.string (B r), .int .i64 0]) := Lib.hid (by rw [L_B]; exact hf)
        by_cases hrs : r = sl
        · subst hrs
          clear hf hr
          go_enter Tryd.func11, Tryd.ntmps11
          go_wp2_with fail
          refine (head_any _ HG.out).mono ?_
          rintro e v1 ⟨rfl, hb⟩
          have c0 := (hb.cell (p := ⟨W.heap.size, 0, none⟩) (by simp)).trans (show _ = some (.int .i64 a) by go_simp)
          have c1 := (hb.cell (p := ⟨W.heap.size, 1, none⟩) (by simp)).trans (show _ = some (.int .i64 b) by go_simp)
          have hz : W.heap.size < v1.heap.size := Nat.lt_of_lt_of_le (by simp) hb.size
          have HB := Lib.hid (HB0.out.trans (hb.mono (by simp)))
          clear hb
          go_wp2_with fail
          refine (signal_any _ _ mw (HG0.out.below HB.out).env.1 (HG0.out.below HB.out).env.2).mono ?_
          rintro e v2 ⟨rfl, hb⟩
          rw [S1.out]
          have c0 := (hb.cell (p := ⟨W.heap.size, 0, none⟩) hz).trans c0
          have c1 := (hb.cell (p := ⟨W.heap.size, 1, none⟩) hz).trans c1
          have HB2 := Lib.hid (HB.out.trans (hb.mono HB.out.size))
          clear hb hz
          go_wp2_with fail
          refine (faulted_any _ _ _ _ MS.out (fr_one _ _ _ _) (by simp)).mono ?_
          rintro e v3 ⟨rfl, hb⟩
          rw [F1.out]
          have HB3 := Lib.hid ((HB2.out.alloc HB2.out.size _).trans (hb.mono (by have := HB2.out.size; simp; omega)))
          clear hb
          go_wp2_with fail
          go_ret
          exact ⟨rfl, HB3.out⟩
        · rcases hr with hr | ⟨p, e, he, hr⟩
          · exact absurd hr.symm hrs
          have R1 : Hid (readV (B r).data.toList = .tuple #[.string p, .int .i64 e]) := Lib.hid (by rw [L_B]; exact hr)
          have q : (e != 0) = true := by simpa using he
          have q2 : (r == sl) = false := by simpa using hrs
          have mr : (B r).size ≤ maxLen := by rw [size_B]; unfold maxLen; omega
          have MR := Lib.hid mr
          clear hf hr he hrs mr
          go_enter Tryd.func11, Tryd.ntmps11
          go_wp2_with fail
          refine (head_any _ HG.out).mono ?_
          rintro e v1 ⟨rfl, hb⟩
          have c0 := (hb.cell (p := ⟨W.heap.size, 0, none⟩) (by simp)).trans (show _ = some (.int .i64 a) by go_simp)
          have c1 := (hb.cell (p := ⟨W.heap.size, 1, none⟩) (by simp)).trans (show _ = some (.int .i64 b) by go_simp)
          have hz : W.heap.size < v1.heap.size := Nat.lt_of_lt_of_le (by simp) hb.size
          have HB := Lib.hid (HB0.out.trans (hb.mono (by simp)))
          clear hb
          go_wp2_with fail
          refine (signal_any _ _ mw (HG0.out.below HB.out).env.1 (HG0.out.below HB.out).env.2).mono ?_
          rintro e v2 ⟨rfl, hb⟩
          rw [S1.out]
          have c0 := (hb.cell (p := ⟨W.heap.size, 0, none⟩) hz).trans c0
          have c1 := (hb.cell (p := ⟨W.heap.size, 1, none⟩) hz).trans c1
          have HB2 := Lib.hid (HB.out.trans (hb.mono HB.out.size))
          clear hb hz
          go_wp2_with fail
          refine (faulted_any _ _ _ _ MS.out (fr_one _ _ _ _) (by simp)).mono ?_
          rintro e v3 ⟨rfl, hb⟩
          rw [F1.out]
          have HB3 := Lib.hid ((HB2.out.alloc HB2.out.size _).trans (hb.mono (by have := HB2.out.size; simp; omega)))
          clear hb
          go_wp2_with fail
          refine (read_any _ _ MR.out (HG0.out.below HB3.out).env).mono ?_
          rintro e v4 ⟨rfl, hb⟩
          rw [R1.out]
          have HB4 := Lib.hid (HB3.out.trans (hb.mono HB3.out.size))
          clear hb
          go_wp2_with fail
          go_ret
          exact ⟨rfl, HB4.out⟩
end Go.Proofs.YtglhlfabfcneeaaDoor
