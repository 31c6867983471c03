/- Read of package beam. -/
import Derived.Test.YtgcaldceiogkaaaDoorB5
namespace Go.Proofs.YtgcaldceiogkaaaDoor
open Go.RowKit Go.Shelf

/-- The word of flashes that have the form of a signal. -/
def formO (l : List UInt8) : Option (List UInt8) := (lettersO l).filter wordB
def readV (l : List UInt8) : Value :=
  if flashE l 100 = 0 then
    match formO l with
    | none => .tuple #[.string ⟨#[]⟩, .int .i64 7]
    | some x => if signalL x = l then .tuple #[.string (B x), .int .i64 0] else .tuple #[.string ⟨#[]⟩, .int .i64 10]
  else .tuple #[.string ⟨#[]⟩, .int .i64 (flashE l 100)]

theorem lettersV_none {l : List UInt8} (h : lettersO l = none) : lettersV l = .tuple #[.string ⟨#[]⟩, .bool false] := by simp [lettersV, h]
theorem lettersV_some {l x : List UInt8} (h : lettersO l = some x) : lettersV l = .tuple #[.string (B x), .bool (wordB x)] := by simp [lettersV, h]
theorem readV_none {l : List UInt8} (h : flashE l 100 = 0) (hf : formO l = none) : readV l = .tuple #[.string ⟨#[]⟩, .int .i64 7] := by simp [readV, h, hf]
theorem readV_ok {l x : List UInt8} (h : flashE l 100 = 0) (hf : formO l = some x) (he : signalL x = l) : readV l = .tuple #[.string (B x), .int .i64 0] := by simp [readV, h, hf, he]
theorem readV_bad {l x : List UInt8} (h : flashE l 100 = 0) (hf : formO l = some x) (he : signalL x ≠ l) : readV l = .tuple #[.string ⟨#[]⟩, .int .i64 10] := by simp [readV, h, hf, he]
theorem flashE_le {l : List UInt8} {m : Int} (h : flashE l m = 0) : (l.length : Int) ≤ m := by
  unfold flashE at h; split at h
  · cases h
  · omega

def Env (w : World) : Prop := Codes w ∧ 0 < w.heap.size
theorem Env.below {w w' : World} (h : Env w) (hb : Below w.heap.size w w') : Env w' :=
  ⟨fun v hv => (hb.cell (p := ⟨_, v, none⟩) h.2).trans (h.1 v hv), Nat.lt_of_lt_of_le h.2 hb.size⟩

set_option maxHeartbeats 1000000 in
theorem read_any (s : ByteArray) (w : World) (hs : s.size ≤ maxLen) (hE : Env w) :
    Calls Tryd.prog 28 #[.string s] w fun e w' => e = .returned (readV s.data.toList) ∧ Below w.heap.size w w' := by
  have HE := Lib.hid hE
  clear hE
  by_cases hf : flashE s.data.toList 100 = 0
  · have hl : s.size ≤ 100 := by have := flashE_le hf; have := size_toList s; omega
    have LT := Lib.hid (letters_any s w hl HE.out.1 HE.out.2)
    have HF := Lib.hid hf
    clear hf
    go_enter Tryd.func28, Tryd.ntmps28
    go_wp2_with fail
    refine (checkFlashes_any _ _ _ hs).mono ?_
    rintro e w' ⟨rfl, rfl⟩
    rw [HF.out]
    go_wp2_with fail
    refine LT.out.mono ?_
    rintro e w1 ⟨rfl, hb⟩
    cases hO : lettersO s.data.toList with
    | none =>
      have HX : Hid (readV s.data.toList = .tuple #[.string ⟨#[]⟩, .int .i64 7]) := Lib.hid (readV_none HF.out (by simp [formO, hO]))
      rw [lettersV_none hO]
      clear hO
      go_wp2
      go_ret2
      exact ⟨ret_val (by rw [HX.out]; rfl), hb⟩
    | some X =>
      rw [lettersV_some hO]
      have HO := Lib.hid hO
      clear hO
      by_cases hw : wordB X = true
      · obtain ⟨_, hX, _⟩ := word_parts hw
        have SG := Lib.hid (signal_any (B X) w1 (by rw [size_B]; unfold maxLen; omega) (HE.out.below hb).1 (HE.out.below hb).2)
        have HW := Lib.hid hw
        rw [L_B, signalV, if_pos hw] at SG
        rw [hw]
        clear hw
        by_cases he : signalL X = s.data.toList
        · have HX : Hid (readV s.data.toList = .tuple #[.string (B X), .int .i64 0]) := Lib.hid (readV_ok HF.out (x := X) (by simp [formO, HO.out, HW.out]) he)
          have hq : (signalL X == s.toList) = true := by rw [toList_L, he]; simp
          have HQ := Lib.hid he
          clear he
          go_wp2_with fail
          refine SG.out.mono ?_
          rintro e w2 ⟨rfl, hb2⟩
          go_wp2
          go_ret2
          exact ⟨ret_val (by rw [HX.out]; rfl), hb.trans (hb2.mono hb.size)⟩
        · have HX : Hid (readV s.data.toList = .tuple #[.string ⟨#[]⟩, .int .i64 10]) := Lib.hid (readV_bad HF.out (x := X) (by simp [formO, HO.out, HW.out]) he)
          have hq : (signalL X == s.toList) = false := by rw [toList_L]; simpa using he
          have HQ := Lib.hid he
          clear he
          go_wp2_with fail
          refine SG.out.mono ?_
          rintro e w2 ⟨rfl, hb2⟩
          go_wp2
          go_ret2
          exact ⟨ret_val (by rw [HX.out]; rfl), hb.trans (hb2.mono hb.size)⟩
      · have hw' : wordB X = false := by simpa using hw
        have HX : Hid (readV s.data.toList = .tuple #[.string ⟨#[]⟩, .int .i64 7]) := Lib.hid (readV_none HF.out (by simp [formO, HO.out, hw']))
        rw [hw']
        clear hw hw'
        go_wp2
        go_ret2
        exact ⟨ret_val (by rw [HX.out]; rfl), hb⟩
  · have HX : Hid (readV s.data.toList = .tuple #[.string ⟨#[]⟩, .int .i64 (flashE s.data.toList 100)]) := Lib.hid (by simp [readV, hf])
    have hb : (flashE s.data.toList 100 != 0) = true := by simpa using hf
    clear hf
    go_enter Tryd.func28, Tryd.ntmps28
    go_wp2_with fail
    refine (checkFlashes_any _ _ _ hs).mono ?_
    rintro e w' ⟨rfl, rfl⟩
    go_wp2
    go_ret2
    exact ⟨ret_val (by rw [HX.out]; rfl), Below.refl _ _⟩
end Go.Proofs.YtgcaldceiogkaaaDoor
