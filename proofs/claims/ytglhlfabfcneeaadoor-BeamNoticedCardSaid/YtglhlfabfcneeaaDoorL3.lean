/- The walk of BeamRound. -/
import Derived.Test.YtglhlfabfcneeaaDoorG0
import Derived.Test.YtglhlfabfcneeaaDoorS2
namespace Go.Proofs.YtglhlfabfcneeaaDoor
open Go.RowKit Go.Shelf

theorem signalV_ok {l : List UInt8} (h : wordB l = true) : signalV l = .tuple #[.string (B (signalL l)), .int .i64 0] := by unfold signalV; rw [if_pos h]
theorem signalV_no {l : List UInt8} (h : wordB l = false) : signalV l = .tuple #[.string ⟨#[]⟩, .int .i64 7] := by unfold signalV; rw [if_neg (by rw [h]; decide)]
theorem unpackV_ok' {s : List UInt8} (h : unB s = true) : unpackV s = .tuple #[.agg #[.int .i64 (unK (s.getD 0 0)), .int .i64 (unN s), .string (B (s.drop 3))], .int .i64 0] := by unfold unpackV; rw [if_pos h]
theorem unpackV_no' {s : List UInt8} (h : unB s = false) : unpackV s = .tuple #[.agg #[.int .i64 0, .int .i64 0, .string ⟨#[]⟩], .int .i64 7] := by unfold unpackV; rw [if_neg (by rw [h]; decide)]
theorem signal_length {w : List UInt8} (hw : wordB w = true) : (signalL w).length ≤ 100 := by have := flashE_le' (signal_flash hw); omega
theorem eqT {p q : ByteArray} (h : p = q) : (p.toList == q.toList) = true := by rw [h]; simp

set_option maxRecDepth 100000 in
set_option maxHeartbeats 4000000 in
theorem round_yyyy (w s : List UInt8) (k n : Int) (t : List UInt8) (W : World) (hG : Glob W) (hw : w.length ≤ 200) (hs : s.length ≤ 200) (ht : t.length ≤ 200) (h1 : wordB w = true) (x : List UInt8) (hx : wordB x = true) (hx2 : signalL x = s) (h2 : readV s = .tuple #[.string (B x), .int .i64 0]) (h3 : validB k n t = true) (h4 : unB w = true) :
    Calls Tryd.prog 10 #[.string (B w), .string (B s), .agg #[.int .i64 k, .int .i64 n, .string (B t)]] W fun e w' => e = .returned (.bool true) ∧ Below W.heap.size W w' := by
  have hb0 : Below W.heap.size W (W.alloc (.cells #[.int .i64 k, .int .i64 n, .string (B t)] 65)) := (Below.refl _ W).alloc (Nat.le_refl _) _
  have HG := Lib.hid (hG.below hb0)
  have HG0 := Lib.hid hG
  have HB0 := Lib.hid hb0
  have mw : (B w).size ≤ maxLen := by rw [size_B]; unfold maxLen; omega
  have ms : (B s).size ≤ maxLen := by rw [size_B]; unfold maxLen; omega
  have mt : (B t).size ≤ maxLen := by rw [size_B]; unfold maxLen; omega
  have MW := Lib.hid mw; have MS := Lib.hid ms; have MT := Lib.hid mt
  have g1 : decide ((200 : Int) < w.length) = false := decide_eq_false (by omega)
  have g2 : decide ((200 : Int) < s.length) = false := decide_eq_false (by omega)
  have g3 : decide ((200 : Int) < t.length) = false := decide_eq_false (by omega)
  have W1 : Hid (wordB w = true) := Lib.hid h1
  have S1 : Hid (signalV (B w).data.toList = .tuple #[.string (B (signalL w)), .int .i64 0]) := Lib.hid (by rw [L_B]; exact signalV_ok h1)
  have R1 : Hid (readV (B (signalL w)).data.toList = .tuple #[.string (B w), .int .i64 0]) := Lib.hid (by rw [L_B]; exact read_signal h1)
  have M1 : Hid ((B (signalL w)).size ≤ maxLen) := Lib.hid (by rw [size_B]; have := signal_length h1; unfold maxLen; omega)
  have R2 : Hid (readV (B s).data.toList = .tuple #[.string (B x), .int .i64 0]) := Lib.hid (by rw [L_B]; exact h2)
  have S2 : Hid (signalV (B x).data.toList = .tuple #[.string (B s), .int .i64 0]) := Lib.hid (by rw [L_B, signalV_ok hx, hx2])
  have M2 : Hid ((B x).size ≤ maxLen) := Lib.hid (by rw [size_B]; have := (word_parts hx).2.1; unfold maxLen; omega)
  have P3 : Hid (packV k n (B t).data.toList = .tuple #[.string (B (pkL k n t)), .int .i64 0]) := Lib.hid (by rw [L_B]; exact packV_ok h3)
  have U3 : Hid (unpackV (B (pkL k n t)).data.toList = .tuple #[.agg #[.int .i64 k, .int .i64 n, .string (B t)], .int .i64 0]) := Lib.hid (by rw [L_B]; exact unpack_pack h3)
  have M3 : Hid ((B (pkL k n t)).size ≤ maxLen) := Lib.hid (by rw [size_B]; unfold pkL maxLen; simp; omega)
  obtain ⟨k4, ek4⟩ : ∃ k4, unK (w.getD 0 0) = k4 := ⟨_, rfl⟩
  obtain ⟨n4, en4⟩ : ∃ n4, unN w = n4 := ⟨_, rfl⟩
  obtain ⟨t4, et4⟩ : ∃ t4, w.drop 3 = t4 := ⟨_, rfl⟩
  have U4 : Hid (unpackV (B w).data.toList = .tuple #[.agg #[.int .i64 k4, .int .i64 n4, .string (B t4)], .int .i64 0]) := Lib.hid (by rw [L_B, unpackV_ok' h4, ek4, en4, et4])
  have P4 : Hid (packV k4 n4 (B t4).data.toList = .tuple #[.string (B w), .int .i64 0]) := Lib.hid (by rw [L_B, ← ek4, ← en4, ← et4]; exact pack_unpack h4)
  have M4 : Hid ((B t4).size ≤ maxLen) := Lib.hid (by rw [size_B, ← et4]; simp only [List.length_drop]; unfold maxLen; omega)
  clear ek4 en4 et4
  clear hG hb0 mw ms mt h1 h2 h3 h4 hx hx2
  go_enter Tryd.func10, Tryd.ntmps10
  go_wp2_with fail
  refine (head_any _ HG.out).mono ?_
  rintro e v1 ⟨rfl, hb⟩
  have c0 := (hb.cell (p := ⟨W.heap.size, 0, none⟩) (by simp)).trans (show _ = some (.int .i64 k) by go_simp)
  have c1 := (hb.cell (p := ⟨W.heap.size, 1, none⟩) (by simp)).trans (show _ = some (.int .i64 n) by go_simp)
  have c2 := (hb.cell (p := ⟨W.heap.size, 2, none⟩) (by simp)).trans (show _ = some (.string (B t)) by go_simp)
  have hz : W.heap.size < v1.heap.size := Nat.lt_of_lt_of_le (by simp) hb.size
  have HB := Lib.hid (HB0.out.trans (hb.mono (by simp)))
  clear hb
  go_wp2_with fail
  refine (signal_any _ _ MW.out (HG0.out.below HB.out).env.1 (HG0.out.below HB.out).env.2).mono ?_
  rintro e v2 ⟨rfl, hb⟩
  rw [S1.out]
  have HB2 := Lib.hid (HB.out.trans (hb.mono HB.out.size))
  have c0 := (hb.cell (p := ⟨W.heap.size, 0, none⟩) hz).trans c0
  have c1 := (hb.cell (p := ⟨W.heap.size, 1, none⟩) hz).trans c1
  have c2 := (hb.cell (p := ⟨W.heap.size, 2, none⟩) hz).trans c2
  have hz := Nat.lt_of_lt_of_le hz hb.size
  clear hb
  go_wp2_with fail
  refine (read_any _ _ M1.out (HG0.out.below HB2.out).env).mono ?_
  rintro e v3 ⟨rfl, hb⟩
  rw [R1.out]
  have HB3 := Lib.hid (HB2.out.trans (hb.mono HB2.out.size))
  have c0 := (hb.cell (p := ⟨W.heap.size, 0, none⟩) hz).trans c0
  have c1 := (hb.cell (p := ⟨W.heap.size, 1, none⟩) hz).trans c1
  have c2 := (hb.cell (p := ⟨W.heap.size, 2, none⟩) hz).trans c2
  have hz := Nat.lt_of_lt_of_le hz hb.size
  clear hb
  go_wp2_with fail
  refine (word_any _ _ MW.out).mono ?_
  rintro e v' ⟨rfl, rfl⟩
  rw [show wordB (B w).data.toList = true by rw [L_B]; exact W1.out]
  go_wp2_with fail
  refine (read_any _ _ MS.out (HG0.out.below HB3.out).env).mono ?_
  rintro e v4 ⟨rfl, hb⟩
  rw [R2.out]
  have HB4 := Lib.hid (HB3.out.trans (hb.mono HB3.out.size))
  have c0 := (hb.cell (p := ⟨W.heap.size, 0, none⟩) hz).trans c0
  have c1 := (hb.cell (p := ⟨W.heap.size, 1, none⟩) hz).trans c1
  have c2 := (hb.cell (p := ⟨W.heap.size, 2, none⟩) hz).trans c2
  have hz := Nat.lt_of_lt_of_le hz hb.size
  clear hb
  go_wp2_with fail
  refine (signal_any _ _ M2.out (HG0.out.below HB4.out).env.1 (HG0.out.below HB4.out).env.2).mono ?_
  rintro e v5 ⟨rfl, hb⟩
  rw [S2.out]
  have HB5 := Lib.hid (HB4.out.trans (hb.mono HB4.out.size))
  have c0 := (hb.cell (p := ⟨W.heap.size, 0, none⟩) hz).trans c0
  have c1 := (hb.cell (p := ⟨W.heap.size, 1, none⟩) hz).trans c1
  have c2 := (hb.cell (p := ⟨W.heap.size, 2, none⟩) hz).trans c2
  have hz := Nat.lt_of_lt_of_le hz hb.size
  clear hb
  go_wp2_with fail
  refine (pack_any _ _ _ _ MT.out).mono ?_
  rintro e v6 ⟨rfl, hb⟩
  rw [P3.out]
  have HB6 := Lib.hid (HB5.out.trans (hb.mono HB5.out.size))
  have c0 := (hb.cell (p := ⟨W.heap.size, 0, none⟩) hz).trans c0
  have c1 := (hb.cell (p := ⟨W.heap.size, 1, none⟩) hz).trans c1
  have c2 := (hb.cell (p := ⟨W.heap.size, 2, none⟩) hz).trans c2
  have hz := Nat.lt_of_lt_of_le hz hb.size
  clear hb
  go_wp2_with fail
  refine (unpack_any _ _ M3.out).mono ?_
  rintro e v7 ⟨rfl, hb⟩
  rw [U3.out]
  have HB7 := Lib.hid (HB6.out.trans (hb.mono HB6.out.size))
  have c0 := (hb.cell (p := ⟨W.heap.size, 0, none⟩) hz).trans c0
  have c1 := (hb.cell (p := ⟨W.heap.size, 1, none⟩) hz).trans c1
  have c2 := (hb.cell (p := ⟨W.heap.size, 2, none⟩) hz).trans c2
  have hz := Nat.lt_of_lt_of_le hz hb.size
  clear hb
  go_wp2_with fail
  refine (unpack_any _ _ MW.out).mono ?_
  rintro e v8 ⟨rfl, hb⟩
  rw [U4.out]
  have HB8 := Lib.hid ((HB7.out.alloc HB7.out.size _).trans (hb.mono (by have := HB7.out.size; simp; omega)))
  clear hb
  go_wp2_with fail
  refine (pack_any _ _ _ _ M4.out).mono ?_
  rintro e v9 ⟨rfl, hb⟩
  rw [P4.out]
  have HB9 := Lib.hid ((HB8.out.alloc HB8.out.size _).trans (hb.mono (by have := HB8.out.size; simp; omega)))
  clear hb
  go_wp2_with fail
  refine (word_any _ _ MW.out).mono ?_
  rintro e v' ⟨rfl, rfl⟩
  rw [show wordB (B w).data.toList = true by rw [L_B]; exact W1.out]
  go_wp2_with fail
  go_ret
  exact ⟨rfl, HB9.out⟩

set_option maxRecDepth 100000 in
set_option maxHeartbeats 4000000 in
theorem round_yyyn (w s : List UInt8) (k n : Int) (t : List UInt8) (W : World) (hG : Glob W) (hw : w.length ≤ 200) (hs : s.length ≤ 200) (ht : t.length ≤ 200) (h1 : wordB w = true) (x : List UInt8) (hx : wordB x = true) (hx2 : signalL x = s) (h2 : readV s = .tuple #[.string (B x), .int .i64 0]) (h3 : validB k n t = true) (h4 : unB w = false) :
    Calls Tryd.prog 10 #[.string (B w), .string (B s), .agg #[.int .i64 k, .int .i64 n, .string (B t)]] W fun e w' => e = .returned (.bool true) ∧ Below W.heap.size W w' := by
  have hb0 : Below W.heap.size W (W.alloc (.cells #[.int .i64 k, .int .i64 n, .string (B t)] 65)) := (Below.refl _ W).alloc (Nat.le_refl _) _
  have HG := Lib.hid (hG.below hb0)
  have HG0 := Lib.hid hG
  have HB0 := Lib.hid hb0
  have mw : (B w).size ≤ maxLen := by rw [size_B]; unfold maxLen; omega
  have ms : (B s).size ≤ maxLen := by rw [size_B]; unfold maxLen; omega
  have mt : (B t).size ≤ maxLen := by rw [size_B]; unfold maxLen; omega
  have MW := Lib.hid mw; have MS := Lib.hid ms; have MT := Lib.hid mt
  have g1 : decide ((200 : Int) < w.length) = false := decide_eq_false (by omega)
  have g2 : decide ((200 : Int) < s.length) = false := decide_eq_false (by omega)
  have g3 : decide ((200 : Int) < t.length) = false := decide_eq_false (by omega)
  have W1 : Hid (wordB w = true) := Lib.hid h1
  have S1 : Hid (signalV (B w).data.toList = .tuple #[.string (B (signalL w)), .int .i64 0]) := Lib.hid (by rw [L_B]; exact signalV_ok h1)
  have R1 : Hid (readV (B (signalL w)).data.toList = .tuple #[.string (B w), .int .i64 0]) := Lib.hid (by rw [L_B]; exact read_signal h1)
  have M1 : Hid ((B (signalL w)).size ≤ maxLen) := Lib.hid (by rw [size_B]; have := signal_length h1; unfold maxLen; omega)
  have R2 : Hid (readV (B s).data.toList = .tuple #[.string (B x), .int .i64 0]) := Lib.hid (by rw [L_B]; exact h2)
  have S2 : Hid (signalV (B x).data.toList = .tuple #[.string (B s), .int .i64 0]) := Lib.hid (by rw [L_B, signalV_ok hx, hx2])
  have M2 : Hid ((B x).size ≤ maxLen) := Lib.hid (by rw [size_B]; have := (word_parts hx).2.1; unfold maxLen; omega)
  have P3 : Hid (packV k n (B t).data.toList = .tuple #[.string (B (pkL k n t)), .int .i64 0]) := Lib.hid (by rw [L_B]; exact packV_ok h3)
  have U3 : Hid (unpackV (B (pkL k n t)).data.toList = .tuple #[.agg #[.int .i64 k, .int .i64 n, .string (B t)], .int .i64 0]) := Lib.hid (by rw [L_B]; exact unpack_pack h3)
  have M3 : Hid ((B (pkL k n t)).size ≤ maxLen) := Lib.hid (by rw [size_B]; unfold pkL maxLen; simp; omega)
  have U4 : Hid (unpackV (B w).data.toList = .tuple #[.agg #[.int .i64 0, .int .i64 0, .string ⟨#[]⟩], .int .i64 7]) := Lib.hid (by rw [L_B]; exact unpackV_no' h4)
  clear hG hb0 mw ms mt h1 h2 h3 h4 hx hx2
  go_enter Tryd.func10, Tryd.ntmps10
  go_wp2_with fail
  refine (head_any _ HG.out).mono ?_
  rintro e v1 ⟨rfl, hb⟩
  have c0 := (hb.cell (p := ⟨W.heap.size, 0, none⟩) (by simp)).trans (show _ = some (.int .i64 k) by go_simp)
  have c1 := (hb.cell (p := ⟨W.heap.size, 1, none⟩) (by simp)).trans (show _ = some (.int .i64 n) by go_simp)
  have c2 := (hb.cell (p := ⟨W.heap.size, 2, none⟩) (by simp)).trans (show _ = some (.string (B t)) by go_simp)
  have hz : W.heap.size < v1.heap.size := Nat.lt_of_lt_of_le (by simp) hb.size
  have HB := Lib.hid (HB0.out.trans (hb.mono (by simp)))
  clear hb
  go_wp2_with fail
  refine (signal_any _ _ MW.out (HG0.out.below HB.out).env.1 (HG0.out.below HB.out).env.2).mono ?_
  rintro e v2 ⟨rfl, hb⟩
  rw [S1.out]
  have HB2 := Lib.hid (HB.out.trans (hb.mono HB.out.size))
  have c0 := (hb.cell (p := ⟨W.heap.size, 0, none⟩) hz).trans c0
  have c1 := (hb.cell (p := ⟨W.heap.size, 1, none⟩) hz).trans c1
  have c2 := (hb.cell (p := ⟨W.heap.size, 2, none⟩) hz).trans c2
  have hz := Nat.lt_of_lt_of_le hz hb.size
  clear hb
  go_wp2_with fail
  refine (read_any _ _ M1.out (HG0.out.below HB2.out).env).mono ?_
  rintro e v3 ⟨rfl, hb⟩
  rw [R1.out]
  have HB3 := Lib.hid (HB2.out.trans (hb.mono HB2.out.size))
  have c0 := (hb.cell (p := ⟨W.heap.size, 0, none⟩) hz).trans c0
  have c1 := (hb.cell (p := ⟨W.heap.size, 1, none⟩) hz).trans c1
  have c2 := (hb.cell (p := ⟨W.heap.size, 2, none⟩) hz).trans c2
  have hz := Nat.lt_of_lt_of_le hz hb.size
  clear hb
  go_wp2_with fail
  refine (word_any _ _ MW.out).mono ?_
  rintro e v' ⟨rfl, rfl⟩
  rw [show wordB (B w).data.toList = true by rw [L_B]; exact W1.out]
  go_wp2_with fail
  refine (read_any _ _ MS.out (HG0.out.below HB3.out).env).mono ?_
  rintro e v4 ⟨rfl, hb⟩
  rw [R2.out]
  have HB4 := Lib.hid (HB3.out.trans (hb.mono HB3.out.size))
  have c0 := (hb.cell (p := ⟨W.heap.size, 0, none⟩) hz).trans c0
  have c1 := (hb.cell (p := ⟨W.heap.size, 1, none⟩) hz).trans c1
  have c2 := (hb.cell (p := ⟨W.heap.size, 2, none⟩) hz).trans c2
  have hz := Nat.lt_of_lt_of_le hz hb.size
  clear hb
  go_wp2_with fail
  refine (signal_any _ _ M2.out (HG0.out.below HB4.out).env.1 (HG0.out.below HB4.out).env.2).mono ?_
  rintro e v5 ⟨rfl, hb⟩
  rw [S2.out]
  have HB5 := Lib.hid (HB4.out.trans (hb.mono HB4.out.size))
  have c0 := (hb.cell (p := ⟨W.heap.size, 0, none⟩) hz).trans c0
  have c1 := (hb.cell (p := ⟨W.heap.size, 1, none⟩) hz).trans c1
  have c2 := (hb.cell (p := ⟨W.heap.size, 2, none⟩) hz).trans c2
  have hz := Nat.lt_of_lt_of_le hz hb.size
  clear hb
  go_wp2_with fail
  refine (pack_any _ _ _ _ MT.out).mono ?_
  rintro e v6 ⟨rfl, hb⟩
  rw [P3.out]
  have HB6 := Lib.hid (HB5.out.trans (hb.mono HB5.out.size))
  have c0 := (hb.cell (p := ⟨W.heap.size, 0, none⟩) hz).trans c0
  have c1 := (hb.cell (p := ⟨W.heap.size, 1, none⟩) hz).trans c1
  have c2 := (hb.cell (p := ⟨W.heap.size, 2, none⟩) hz).trans c2
  have hz := Nat.lt_of_lt_of_le hz hb.size
  clear hb
  go_wp2_with fail
  refine (unpack_any _ _ M3.out).mono ?_
  rintro e v7 ⟨rfl, hb⟩
  rw [U3.out]
  have HB7 := Lib.hid (HB6.out.trans (hb.mono HB6.out.size))
  have c0 := (hb.cell (p := ⟨W.heap.size, 0, none⟩) hz).trans c0
  have c1 := (hb.cell (p := ⟨W.heap.size, 1, none⟩) hz).trans c1
  have c2 := (hb.cell (p := ⟨W.heap.size, 2, none⟩) hz).trans c2
  have hz := Nat.lt_of_lt_of_le hz hb.size
  clear hb
  go_wp2_with fail
  refine (unpack_any _ _ MW.out).mono ?_
  rintro e v8 ⟨rfl, hb⟩
  rw [U4.out]
  have HB8 := Lib.hid ((HB7.out.alloc HB7.out.size _).trans (hb.mono (by have := HB7.out.size; simp; omega)))
  clear hb
  go_wp2_with fail
  refine (word_any _ _ MW.out).mono ?_
  rintro e v' ⟨rfl, rfl⟩
  rw [show wordB (B w).data.toList = true by rw [L_B]; exact W1.out]
  go_wp2_with fail
  go_ret
  exact ⟨rfl, HB8.out.alloc HB8.out.size _⟩

set_option maxRecDepth 100000 in
set_option maxHeartbeats 4000000 in
theorem round_yyny (w s : List UInt8) (k n : Int) (t : List UInt8) (W : World) (hG : Glob W) (hw : w.length ≤ 200) (hs : s.length ≤ 200) (ht : t.length ≤ 200) (h1 : wordB w = true) (x : List UInt8) (hx : wordB x = true) (hx2 : signalL x = s) (h2 : readV s = .tuple #[.string (B x), .int .i64 0]) (h3 : validB k n t = false) (h4 : unB w = true) :
    Calls Tryd.prog 10 #[.string (B w), .string (B s), .agg #[.int .i64 k, .int .i64 n, .string (B t)]] W fun e w' => e = .returned (.bool true) ∧ Below W.heap.size W w' := by
  have hb0 : Below W.heap.size W (W.alloc (.cells #[.int .i64 k, .int .i64 n, .string (B t)] 65)) := (Below.refl _ W).alloc (Nat.le_refl _) _
  have HG := Lib.hid (hG.below hb0)
  have HG0 := Lib.hid hG
  have HB0 := Lib.hid hb0
  have mw : (B w).size ≤ maxLen := by rw [size_B]; unfold maxLen; omega
  have ms : (B s).size ≤ maxLen := by rw [size_B]; unfold maxLen; omega
  have mt : (B t).size ≤ maxLen := by rw [size_B]; unfold maxLen; omega
  have MW := Lib.hid mw; have MS := Lib.hid ms; have MT := Lib.hid mt
  have g1 : decide ((200 : Int) < w.length) = false := decide_eq_false (by omega)
  have g2 : decide ((200 : Int) < s.length) = false := decide_eq_false (by omega)
  have g3 : decide ((200 : Int) < t.length) = false := decide_eq_false (by omega)
  have W1 : Hid (wordB w = true) := Lib.hid h1
  have S1 : Hid (signalV (B w).data.toList = .tuple #[.string (B (signalL w)), .int .i64 0]) := Lib.hid (by rw [L_B]; exact signalV_ok h1)
  have R1 : Hid (readV (B (signalL w)).data.toList = .tuple #[.string (B w), .int .i64 0]) := Lib.hid (by rw [L_B]; exact read_signal h1)
  have M1 : Hid ((B (signalL w)).size ≤ maxLen) := Lib.hid (by rw [size_B]; have := signal_length h1; unfold maxLen; omega)
  have R2 : Hid (readV (B s).data.toList = .tuple #[.string (B x), .int .i64 0]) := Lib.hid (by rw [L_B]; exact h2)
  have S2 : Hid (signalV (B x).data.toList = .tuple #[.string (B s), .int .i64 0]) := Lib.hid (by rw [L_B, signalV_ok hx, hx2])
  have M2 : Hid ((B x).size ≤ maxLen) := Lib.hid (by rw [size_B]; have := (word_parts hx).2.1; unfold maxLen; omega)
  have P3 : Hid (packV k n (B t).data.toList = .tuple #[.string ⟨#[]⟩, .int .i64 1]) := Lib.hid (by rw [L_B]; exact packV_no h3)
  obtain ⟨k4, ek4⟩ : ∃ k4, unK (w.getD 0 0) = k4 := ⟨_, rfl⟩
  obtain ⟨n4, en4⟩ : ∃ n4, unN w = n4 := ⟨_, rfl⟩
  obtain ⟨t4, et4⟩ : ∃ t4, w.drop 3 = t4 := ⟨_, rfl⟩
  have U4 : Hid (unpackV (B w).data.toList = .tuple #[.agg #[.int .i64 k4, .int .i64 n4, .string (B t4)], .int .i64 0]) := Lib.hid (by rw [L_B, unpackV_ok' h4, ek4, en4, et4])
  have P4 : Hid (packV k4 n4 (B t4).data.toList = .tuple #[.string (B w), .int .i64 0]) := Lib.hid (by rw [L_B, ← ek4, ← en4, ← et4]; exact pack_unpack h4)
  have M4 : Hid ((B t4).size ≤ maxLen) := Lib.hid (by rw [size_B, ← et4]; simp only [List.length_drop]; unfold maxLen; omega)
  clear ek4 en4 et4
  clear hG hb0 mw ms mt h1 h2 h3 h4 hx hx2
  go_enter Tryd.func10, Tryd.ntmps10
  go_wp2_with fail
  refine (head_any _ HG.out).mono ?_
  rintro e v1 ⟨rfl, hb⟩
  have c0 := (hb.cell (p := ⟨W.heap.size, 0, none⟩) (by simp)).trans (show _ = some (.int .i64 k) by go_simp)
  have c1 := (hb.cell (p := ⟨W.heap.size, 1, none⟩) (by simp)).trans (show _ = some (.int .i64 n) by go_simp)
  have c2 := (hb.cell (p := ⟨W.heap.size, 2, none⟩) (by simp)).trans (show _ = some (.string (B t)) by go_simp)
  have hz : W.heap.size < v1.heap.size := Nat.lt_of_lt_of_le (by simp) hb.size
  have HB := Lib.hid (HB0.out.trans (hb.mono (by simp)))
  clear hb
  go_wp2_with fail
  refine (signal_any _ _ MW.out (HG0.out.below HB.out).env.1 (HG0.out.below HB.out).env.2).mono ?_
  rintro e v2 ⟨rfl, hb⟩
  rw [S1.out]
  have HB2 := Lib.hid (HB.out.trans (hb.mono HB.out.size))
  have c0 := (hb.cell (p := ⟨W.heap.size, 0, none⟩) hz).trans c0
  have c1 := (hb.cell (p := ⟨W.heap.size, 1, none⟩) hz).trans c1
  have c2 := (hb.cell (p := ⟨W.heap.size, 2, none⟩) hz).trans c2
  have hz := Nat.lt_of_lt_of_le hz hb.size
  clear hb
  go_wp2_with fail
  refine (read_any _ _ M1.out (HG0.out.below HB2.out).env).mono ?_
  rintro e v3 ⟨rfl, hb⟩
  rw [R1.out]
  have HB3 := Lib.hid (HB2.out.trans (hb.mono HB2.out.size))
  have c0 := (hb.cell (p := ⟨W.heap.size, 0, none⟩) hz).trans c0
  have c1 := (hb.cell (p := ⟨W.heap.size, 1, none⟩) hz).trans c1
  have c2 := (hb.cell (p := ⟨W.heap.size, 2, none⟩) hz).trans c2
  have hz := Nat.lt_of_lt_of_le hz hb.size
  clear hb
  go_wp2_with fail
  refine (word_any _ _ MW.out).mono ?_
  rintro e v' ⟨rfl, rfl⟩
  rw [show wordB (B w).data.toList = true by rw [L_B]; exact W1.out]
  go_wp2_with fail
  refine (read_any _ _ MS.out (HG0.out.below HB3.out).env).mono ?_
  rintro e v4 ⟨rfl, hb⟩
  rw [R2.out]
  have HB4 := Lib.hid (HB3.out.trans (hb.mono HB3.out.size))
  have c0 := (hb.cell (p := ⟨W.heap.size, 0, none⟩) hz).trans c0
  have c1 := (hb.cell (p := ⟨W.heap.size, 1, none⟩) hz).trans c1
  have c2 := (hb.cell (p := ⟨W.heap.size, 2, none⟩) hz).trans c2
  have hz := Nat.lt_of_lt_of_le hz hb.size
  clear hb
  go_wp2_with fail
  refine (signal_any _ _ M2.out (HG0.out.below HB4.out).env.1 (HG0.out.below HB4.out).env.2).mono ?_
  rintro e v5 ⟨rfl, hb⟩
  rw [S2.out]
  have HB5 := Lib.hid (HB4.out.trans (hb.mono HB4.out.size))
  have c0 := (hb.cell (p := ⟨W.heap.size, 0, none⟩) hz).trans c0
  have c1 := (hb.cell (p := ⟨W.heap.size, 1, none⟩) hz).trans c1
  have c2 := (hb.cell (p := ⟨W.heap.size, 2, none⟩) hz).trans c2
  have hz := Nat.lt_of_lt_of_le hz hb.size
  clear hb
  go_wp2_with fail
  refine (pack_any _ _ _ _ MT.out).mono ?_
  rintro e v6 ⟨rfl, hb⟩
  rw [P3.out]
  have HB6 := Lib.hid (HB5.out.trans (hb.mono HB5.out.size))
  have c0 := (hb.cell (p := ⟨W.heap.size, 0, none⟩) hz).trans c0
  have c1 := (hb.cell (p := ⟨W.heap.size, 1, none⟩) hz).trans c1
  have c2 := (hb.cell (p := ⟨W.heap.size, 2, none⟩) hz).trans c2
  have hz := Nat.lt_of_lt_of_le hz hb.size
  clear hb
  go_wp2_with fail
  refine (unpack_any _ _ MW.out).mono ?_
  rintro e v7 ⟨rfl, hb⟩
  rw [U4.out]
  have HB7 := Lib.hid (HB6.out.trans (hb.mono HB6.out.size))
  clear hb
  go_wp2_with fail
  refine (pack_any _ _ _ _ M4.out).mono ?_
  rintro e v8 ⟨rfl, hb⟩
  rw [P4.out]
  have HB8 := Lib.hid ((HB7.out.alloc HB7.out.size _).trans (hb.mono (by have := HB7.out.size; simp; omega)))
  clear hb
  go_wp2_with fail
  refine (word_any _ _ MW.out).mono ?_
  rintro e v' ⟨rfl, rfl⟩
  rw [show wordB (B w).data.toList = true by rw [L_B]; exact W1.out]
  go_wp2_with fail
  go_ret
  exact ⟨rfl, HB8.out⟩

set_option maxRecDepth 100000 in
set_option maxHeartbeats 4000000 in
theorem round_yynn (w s : List UInt8) (k n : Int) (t : List UInt8) (W : World) (hG : Glob W) (hw : w.length ≤ 200) (hs : s.length ≤ 200) (ht : t.length ≤ 200) (h1 : wordB w = true) (x : List UInt8) (hx : wordB x = true) (hx2 : signalL x = s) (h2 : readV s = .tuple #[.string (B x), .int .i64 0]) (h3 : validB k n t = false) (h4 : unB w = false) :
    Calls Tryd.prog 10 #[.string (B w), .string (B s), .agg #[.int .i64 k, .int .i64 n, .string (B t)]] W fun e w' => e = .returned (.bool true) ∧ Below W.heap.size W w' := by
  have hb0 : Below W.heap.size W (W.alloc (.cells #[.int .i64 k, .int .i64 n, .string (B t)] 65)) := (Below.refl _ W).alloc (Nat.le_refl _) _
  have HG := Lib.hid (hG.below hb0)
  have HG0 := Lib.hid hG
  have HB0 := Lib.hid hb0
  have mw : (B w).size ≤ maxLen := by rw [size_B]; unfold maxLen; omega
  have ms : (B s).size ≤ maxLen := by rw [size_B]; unfold maxLen; omega
  have mt : (B t).size ≤ maxLen := by rw [size_B]; unfold maxLen; omega
  have MW := Lib.hid mw; have MS := Lib.hid ms; have MT := Lib.hid mt
  have g1 : decide ((200 : Int) < w.length) = false := decide_eq_false (by omega)
  have g2 : decide ((200 : Int) < s.length) = false := decide_eq_false (by omega)
  have g3 : decide ((200 : Int) < t.length) = false := decide_eq_false (by omega)
  have W1 : Hid (wordB w = true) := Lib.hid h1
  have S1 : Hid (signalV (B w).data.toList = .tuple #[.string (B (signalL w)), .int .i64 0]) := Lib.hid (by rw [L_B]; exact signalV_ok h1)
  have R1 : Hid (readV (B (signalL w)).data.toList = .tuple #[.string (B w), .int .i64 0]) := Lib.hid (by rw [L_B]; exact read_signal h1)
  have M1 : Hid ((B (signalL w)).size ≤ maxLen) := Lib.hid (by rw [size_B]; have := signal_length h1; unfold maxLen; omega)
  have R2 : Hid (readV (B s).data.toList = .tuple #[.string (B x), .int .i64 0]) := Lib.hid (by rw [L_B]; exact h2)
  have S2 : Hid (signalV (B x).data.toList = .tuple #[.string (B s), .int .i64 0]) := Lib.hid (by rw [L_B, signalV_ok hx, hx2])
  have M2 : Hid ((B x).size ≤ maxLen) := Lib.hid (by rw [size_B]; have := (word_parts hx).2.1; unfold maxLen; omega)
  have P3 : Hid (packV k n (B t).data.toList = .tuple #[.string ⟨#[]⟩, .int .i64 1]) := Lib.hid (by rw [L_B]; exact packV_no h3)
  have U4 : Hid (unpackV (B w).data.toList = .tuple #[.agg #[.int .i64 0, .int .i64 0, .string ⟨#[]⟩], .int .i64 7]) := Lib.hid (by rw [L_B]; exact unpackV_no' h4)
  clear hG hb0 mw ms mt h1 h2 h3 h4 hx hx2
  go_enter Tryd.func10, Tryd.ntmps10
  go_wp2_with fail
  refine (head_any _ HG.out).mono ?_
  rintro e v1 ⟨rfl, hb⟩
  have c0 := (hb.cell (p := ⟨W.heap.size, 0, none⟩) (by simp)).trans (show _ = some (.int .i64 k) by go_simp)
  have c1 := (hb.cell (p := ⟨W.heap.size, 1, none⟩) (by simp)).trans (show _ = some (.int .i64 n) by go_simp)
  have c2 := (hb.cell (p := ⟨W.heap.size, 2, none⟩) (by simp)).trans (show _ = some (.string (B t)) by go_simp)
  have hz : W.heap.size < v1.heap.size := Nat.lt_of_lt_of_le (by simp) hb.size
  have HB := Lib.hid (HB0.out.trans (hb.mono (by simp)))
  clear hb
  go_wp2_with fail
  refine (signal_any _ _ MW.out (HG0.out.below HB.out).env.1 (HG0.out.below HB.out).env.2).mono ?_
  rintro e v2 ⟨rfl, hb⟩
  rw [S1.out]
  have HB2 := Lib.hid (HB.out.trans (hb.mono HB.out.size))
  have c0 := (hb.cell (p := ⟨W.heap.size, 0, none⟩) hz).trans c0
  have c1 := (hb.cell (p := ⟨W.heap.size, 1, none⟩) hz).trans c1
  have c2 := (hb.cell (p := ⟨W.heap.size, 2, none⟩) hz).trans c2
  have hz := Nat.lt_of_lt_of_le hz hb.size
  clear hb
  go_wp2_with fail
  refine (read_any _ _ M1.out (HG0.out.below HB2.out).env).mono ?_
  rintro e v3 ⟨rfl, hb⟩
  rw [R1.out]
  have HB3 := Lib.hid (HB2.out.trans (hb.mono HB2.out.size))
  have c0 := (hb.cell (p := ⟨W.heap.size, 0, none⟩) hz).trans c0
  have c1 := (hb.cell (p := ⟨W.heap.size, 1, none⟩) hz).trans c1
  have c2 := (hb.cell (p := ⟨W.heap.size, 2, none⟩) hz).trans c2
  have hz := Nat.lt_of_lt_of_le hz hb.size
  clear hb
  go_wp2_with fail
  refine (word_any _ _ MW.out).mono ?_
  rintro e v' ⟨rfl, rfl⟩
  rw [show wordB (B w).data.toList = true by rw [L_B]; exact W1.out]
  go_wp2_with fail
  refine (read_any _ _ MS.out (HG0.out.below HB3.out).env).mono ?_
  rintro e v4 ⟨rfl, hb⟩
  rw [R2.out]
  have HB4 := Lib.hid (HB3.out.trans (hb.mono HB3.out.size))
  have c0 := (hb.cell (p := ⟨W.heap.size, 0, none⟩) hz).trans c0
  have c1 := (hb.cell (p := ⟨W.heap.size, 1, none⟩) hz).trans c1
  have c2 := (hb.cell (p := ⟨W.heap.size, 2, none⟩) hz).trans c2
  have hz := Nat.lt_of_lt_of_le hz hb.size
  clear hb
  go_wp2_with fail
  refine (signal_any _ _ M2.out (HG0.out.below HB4.out).env.1 (HG0.out.below HB4.out).env.2).mono ?_
  rintro e v5 ⟨rfl, hb⟩
  rw [S2.out]
  have HB5 := Lib.hid (HB4.out.trans (hb.mono HB4.out.size))
  have c0 := (hb.cell (p := ⟨W.heap.size, 0, none⟩) hz).trans c0
  have c1 := (hb.cell (p := ⟨W.heap.size, 1, none⟩) hz).trans c1
  have c2 := (hb.cell (p := ⟨W.heap.size, 2, none⟩) hz).trans c2
  have hz := Nat.lt_of_lt_of_le hz hb.size
  clear hb
  go_wp2_with fail
  refine (pack_any _ _ _ _ MT.out).mono ?_
  rintro e v6 ⟨rfl, hb⟩
  rw [P3.out]
  have HB6 := Lib.hid (HB5.out.trans (hb.mono HB5.out.size))
  have c0 := (hb.cell (p := ⟨W.heap.size, 0, none⟩) hz).trans c0
  have c1 := (hb.cell (p := ⟨W.heap.size, 1, none⟩) hz).trans c1
  have c2 := (hb.cell (p := ⟨W.heap.size, 2, none⟩) hz).trans c2
  have hz := Nat.lt_of_lt_of_le hz hb.size
  clear hb
  go_wp2_with fail
  refine (unpack_any _ _ MW.out).mono ?_
  rintro e v7 ⟨rfl, hb⟩
  rw [U4.out]
  have HB7 := Lib.hid (HB6.out.trans (hb.mono HB6.out.size))
  clear hb
  go_wp2_with fail
  refine (word_any _ _ MW.out).mono ?_
  rintro e v' ⟨rfl, rfl⟩
  rw [show wordB (B w).data.toList = true by rw [L_B]; exact W1.out]
  go_wp2_with fail
  go_ret
  exact ⟨rfl, HB7.out.alloc HB7.out.size _⟩

set_option maxRecDepth 100000 in
set_option maxHeartbeats 4000000 in
theorem round_ynyy (w s : List UInt8) (k n : Int) (t : List UInt8) (W : World) (hG : Glob W) (hw : w.length ≤ 200) (hs : s.length ≤ 200) (ht : t.length ≤ 200) (h1 : wordB w = true) (p2 : ByteArray) (e2 : Int) (he2 : e2 ≠ 0) (h2 : readV s = .tuple #[.string p2, .int .i64 e2]) (h3 : validB k n t = true) (h4 : unB w = true) :
    Calls Tryd.prog 10 #[.string (B w), .string (B s), .agg #[.int .i64 k, .int .i64 n, .string (B t)]] W fun e w' => e = .returned (.bool true) ∧ Below W.heap.size W w' := by
  have hb0 : Below W.heap.size W (W.alloc (.cells #[.int .i64 k, .int .i64 n, .string (B t)] 65)) := (Below.refl _ W).alloc (Nat.le_refl _) _
  have HG := Lib.hid (hG.below hb0)
  have HG0 := Lib.hid hG
  have HB0 := Lib.hid hb0
  have mw : (B w).size ≤ maxLen := by rw [size_B]; unfold maxLen; omega
  have ms : (B s).size ≤ maxLen := by rw [size_B]; unfold maxLen; omega
  have mt : (B t).size ≤ maxLen := by rw [size_B]; unfold maxLen; omega
  have MW := Lib.hid mw; have MS := Lib.hid ms; have MT := Lib.hid mt
  have g1 : decide ((200 : Int) < w.length) = false := decide_eq_false (by omega)
  have g2 : decide ((200 : Int) < s.length) = false := decide_eq_false (by omega)
  have g3 : decide ((200 : Int) < t.length) = false := decide_eq_false (by omega)
  have W1 : Hid (wordB w = true) := Lib.hid h1
  have S1 : Hid (signalV (B w).data.toList = .tuple #[.string (B (signalL w)), .int .i64 0]) := Lib.hid (by rw [L_B]; exact signalV_ok h1)
  have R1 : Hid (readV (B (signalL w)).data.toList = .tuple #[.string (B w), .int .i64 0]) := Lib.hid (by rw [L_B]; exact read_signal h1)
  have M1 : Hid ((B (signalL w)).size ≤ maxLen) := Lib.hid (by rw [size_B]; have := signal_length h1; unfold maxLen; omega)
  have R2 : Hid (readV (B s).data.toList = .tuple #[.string p2, .int .i64 e2]) := Lib.hid (by rw [L_B]; exact h2)
  have q2 : (e2 == 0) = false := by simpa using he2
  have P3 : Hid (packV k n (B t).data.toList = .tuple #[.string (B (pkL k n t)), .int .i64 0]) := Lib.hid (by rw [L_B]; exact packV_ok h3)
  have U3 : Hid (unpackV (B (pkL k n t)).data.toList = .tuple #[.agg #[.int .i64 k, .int .i64 n, .string (B t)], .int .i64 0]) := Lib.hid (by rw [L_B]; exact unpack_pack h3)
  have M3 : Hid ((B (pkL k n t)).size ≤ maxLen) := Lib.hid (by rw [size_B]; unfold pkL maxLen; simp; omega)
  obtain ⟨k4, ek4⟩ : ∃ k4, unK (w.getD 0 0) = k4 := ⟨_, rfl⟩
  obtain ⟨n4, en4⟩ : ∃ n4, unN w = n4 := ⟨_, rfl⟩
  obtain ⟨t4, et4⟩ : ∃ t4, w.drop 3 = t4 := ⟨_, rfl⟩
  have U4 : Hid (unpackV (B w).data.toList = .tuple #[.agg #[.int .i64 k4, .int .i64 n4, .string (B t4)], .int .i64 0]) := Lib.hid (by rw [L_B, unpackV_ok' h4, ek4, en4, et4])
  have P4 : Hid (packV k4 n4 (B t4).data.toList = .tuple #[.string (B w), .int .i64 0]) := Lib.hid (by rw [L_B, ← ek4, ← en4, ← et4]; exact pack_unpack h4)
  have M4 : Hid ((B t4).size ≤ maxLen) := Lib.hid (by rw [size_B, ← et4]; simp only [List.length_drop]; unfold maxLen; omega)
  clear ek4 en4 et4
  clear hG hb0 mw ms mt h1 h2 h3 h4 he2
  go_enter Tryd.func10, Tryd.ntmps10
  go_wp2_with fail
  refine (head_any _ HG.out).mono ?_
  rintro e v1 ⟨rfl, hb⟩
  have c0 := (hb.cell (p := ⟨W.heap.size, 0, none⟩) (by simp)).trans (show _ = some (.int .i64 k) by go_simp)
  have c1 := (hb.cell (p := ⟨W.heap.size, 1, none⟩) (by simp)).trans (show _ = some (.int .i64 n) by go_simp)
  have c2 := (hb.cell (p := ⟨W.heap.size, 2, none⟩) (by simp)).trans (show _ = some (.string (B t)) by go_simp)
  have hz : W.heap.size < v1.heap.size := Nat.lt_of_lt_of_le (by simp) hb.size
  have HB := Lib.hid (HB0.out.trans (hb.mono (by simp)))
  clear hb
  go_wp2_with fail
  refine (signal_any _ _ MW.out (HG0.out.below HB.out).env.1 (HG0.out.below HB.out).env.2).mono ?_
  rintro e v2 ⟨rfl, hb⟩
  rw [S1.out]
  have HB2 := Lib.hid (HB.out.trans (hb.mono HB.out.size))
  have c0 := (hb.cell (p := ⟨W.heap.size, 0, none⟩) hz).trans c0
  have c1 := (hb.cell (p := ⟨W.heap.size, 1, none⟩) hz).trans c1
  have c2 := (hb.cell (p := ⟨W.heap.size, 2, none⟩) hz).trans c2
  have hz := Nat.lt_of_lt_of_le hz hb.size
  clear hb
  go_wp2_with fail
  refine (read_any _ _ M1.out (HG0.out.below HB2.out).env).mono ?_
  rintro e v3 ⟨rfl, hb⟩
  rw [R1.out]
  have HB3 := Lib.hid (HB2.out.trans (hb.mono HB2.out.size))
  have c0 := (hb.cell (p := ⟨W.heap.size, 0, none⟩) hz).trans c0
  have c1 := (hb.cell (p := ⟨W.heap.size, 1, none⟩) hz).trans c1
  have c2 := (hb.cell (p := ⟨W.heap.size, 2, none⟩) hz).trans c2
  have hz := Nat.lt_of_lt_of_le hz hb.size
  clear hb
  go_wp2_with fail
  refine (word_any _ _ MW.out).mono ?_
  rintro e v' ⟨rfl, rfl⟩
  rw [show wordB (B w).data.toList = true by rw [L_B]; exact W1.out]
  go_wp2_with fail
  refine (read_any _ _ MS.out (HG0.out.below HB3.out).env).mono ?_
  rintro e v4 ⟨rfl, hb⟩
  rw [R2.out]
  have HB4 := Lib.hid (HB3.out.trans (hb.mono HB3.out.size))
  have c0 := (hb.cell (p := ⟨W.heap.size, 0, none⟩) hz).trans c0
  have c1 := (hb.cell (p := ⟨W.heap.size, 1, none⟩) hz).trans c1
  have c2 := (hb.cell (p := ⟨W.heap.size, 2, none⟩) hz).trans c2
  have hz := Nat.lt_of_lt_of_le hz hb.size
  clear hb
  go_wp2_with fail
  refine (pack_any _ _ _ _ MT.out).mono ?_
  rintro e v5 ⟨rfl, hb⟩
  rw [P3.out]
  have HB5 := Lib.hid (HB4.out.trans (hb.mono HB4.out.size))
  have c0 := (hb.cell (p := ⟨W.heap.size, 0, none⟩) hz).trans c0
  have c1 := (hb.cell (p := ⟨W.heap.size, 1, none⟩) hz).trans c1
  have c2 := (hb.cell (p := ⟨W.heap.size, 2, none⟩) hz).trans c2
  have hz := Nat.lt_of_lt_of_le hz hb.size
  clear hb
  go_wp2_with fail
  refine (unpack_any _ _ M3.out).mono ?_
  rintro e v6 ⟨rfl, hb⟩
  rw [U3.out]
  have HB6 := Lib.hid (HB5.out.trans (hb.mono HB5.out.size))
  have c0 := (hb.cell (p := ⟨W.heap.size, 0, none⟩) hz).trans c0
  have c1 := (hb.cell (p := ⟨W.heap.size, 1, none⟩) hz).trans c1
  have c2 := (hb.cell (p := ⟨W.heap.size, 2, none⟩) hz).trans c2
  have hz := Nat.lt_of_lt_of_le hz hb.size
  clear hb
  go_wp2_with fail
  refine (unpack_any _ _ MW.out).mono ?_
  rintro e v7 ⟨rfl, hb⟩
  rw [U4.out]
  have HB7 := Lib.hid ((HB6.out.alloc HB6.out.size _).trans (hb.mono (by have := HB6.out.size; simp; omega)))
  clear hb
  go_wp2_with fail
  refine (pack_any _ _ _ _ M4.out).mono ?_
  rintro e v8 ⟨rfl, hb⟩
  rw [P4.out]
  have HB8 := Lib.hid ((HB7.out.alloc HB7.out.size _).trans (hb.mono (by have := HB7.out.size; simp; omega)))
  clear hb
  go_wp2_with fail
  refine (word_any _ _ MW.out).mono ?_
  rintro e v' ⟨rfl, rfl⟩
  rw [show wordB (B w).data.toList = true by rw [L_B]; exact W1.out]
  go_wp2_with fail
  go_ret
  exact ⟨rfl, HB8.out⟩

set_option maxRecDepth 100000 in
set_option maxHeartbeats 4000000 in
theorem round_ynyn (w s : List UInt8) (k n : Int) (t : List UInt8) (W : World) (hG : Glob W) (hw : w.length ≤ 200) (hs : s.length ≤ 200) (ht : t.length ≤ 200) (h1 : wordB w = true) (p2 : ByteArray) (e2 : Int) (he2 : e2 ≠ 0) (h2 : readV s = .tuple #[.string p2, .int .i64 e2]) (h3 : validB k n t = true) (h4 : unB w = false) :
    Calls Tryd.prog 10 #[.string (B w), .string (B s), .agg #[.int .i64 k, .int .i64 n, .string (B t)]] W fun e w' => e = .returned (.bool true) ∧ Below W.heap.size W w' := by
  have hb0 : Below W.heap.size W (W.alloc (.cells #[.int .i64 k, .int .i64 n, .string (B t)] 65)) := (Below.refl _ W).alloc (Nat.le_refl _) _
  have HG := Lib.hid (hG.below hb0)
  have HG0 := Lib.hid hG
  have HB0 := Lib.hid hb0
  have mw : (B w).size ≤ maxLen := by rw [size_B]; unfold maxLen; omega
  have ms : (B s).size ≤ maxLen := by rw [size_B]; unfold maxLen; omega
  have mt : (B t).size ≤ maxLen := by rw [size_B]; unfold maxLen; omega
  have MW := Lib.hid mw; have MS := Lib.hid ms; have MT := Lib.hid mt
  have g1 : decide ((200 : Int) < w.length) = false := decide_eq_false (by omega)
  have g2 : decide ((200 : Int) < s.length) = false := decide_eq_false (by omega)
  have g3 : decide ((200 : Int) < t.length) = false := decide_eq_false (by omega)
  have W1 : Hid (wordB w = true) := Lib.hid h1
  have S1 : Hid (signalV (B w).data.toList = .tuple #[.string (B (signalL w)), .int .i64 0]) := Lib.hid (by rw [L_B]; exact signalV_ok h1)
  have R1 : Hid (readV (B (signalL w)).data.toList = .tuple #[.string (B w), .int .i64 0]) := Lib.hid (by rw [L_B]; exact read_signal h1)
  have M1 : Hid ((B (signalL w)).size ≤ maxLen) := Lib.hid (by rw [size_B]; have := signal_length h1; unfold maxLen; omega)
  have R2 : Hid (readV (B s).data.toList = .tuple #[.string p2, .int .i64 e2]) := Lib.hid (by rw [L_B]; exact h2)
  have q2 : (e2 == 0) = false := by simpa using he2
  have P3 : Hid (packV k n (B t).data.toList = .tuple #[.string (B (pkL k n t)), .int .i64 0]) := Lib.hid (by rw [L_B]; exact packV_ok h3)
  have U3 : Hid (unpackV (B (pkL k n t)).data.toList = .tuple #[.agg #[.int .i64 k, .int .i64 n, .string (B t)], .int .i64 0]) := Lib.hid (by rw [L_B]; exact unpack_pack h3)
  have M3 : Hid ((B (pkL k n t)).size ≤ maxLen) := Lib.hid (by rw [size_B]; unfold pkL maxLen; simp; omega)
  have U4 : Hid (unpackV (B w).data.toList = .tuple #[.agg #[.int .i64 0, .int .i64 0, .string ⟨#[]⟩], .int .i64 7]) := Lib.hid (by rw [L_B]; exact unpackV_no' h4)
  clear hG hb0 mw ms mt h1 h2 h3 h4 he2
  go_enter Tryd.func10, Tryd.ntmps10
  go_wp2_with fail
  refine (head_any _ HG.out).mono ?_
  rintro e v1 ⟨rfl, hb⟩
  have c0 := (hb.cell (p := ⟨W.heap.size, 0, none⟩) (by simp)).trans (show _ = some (.int .i64 k) by go_simp)
  have c1 := (hb.cell (p := ⟨W.heap.size, 1, none⟩) (by simp)).trans (show _ = some (.int .i64 n) by go_simp)
  have c2 := (hb.cell (p := ⟨W.heap.size, 2, none⟩) (by simp)).trans (show _ = some (.string (B t)) by go_simp)
  have hz : W.heap.size < v1.heap.size := Nat.lt_of_lt_of_le (by simp) hb.size
  have HB := Lib.hid (HB0.out.trans (hb.mono (by simp)))
  clear hb
  go_wp2_with fail
  refine (signal_any _ _ MW.out (HG0.out.below HB.out).env.1 (HG0.out.below HB.out).env.2).mono ?_
  rintro e v2 ⟨rfl, hb⟩
  rw [S1.out]
  have HB2 := Lib.hid (HB.out.trans (hb.mono HB.out.size))
  have c0 := (hb.cell (p := ⟨W.heap.size, 0, none⟩) hz).trans c0
  have c1 := (hb.cell (p := ⟨W.heap.size, 1, none⟩) hz).trans c1
  have c2 := (hb.cell (p := ⟨W.heap.size, 2, none⟩) hz).trans c2
  have hz := Nat.lt_of_lt_of_le hz hb.size
  clear hb
  go_wp2_with fail
  refine (read_any _ _ M1.out (HG0.out.below HB2.out).env).mono ?_
  rintro e v3 ⟨rfl, hb⟩
  rw [R1.out]
  have HB3 := Lib.hid (HB2.out.trans (hb.mono HB2.out.size))
  have c0 := (hb.cell (p := ⟨W.heap.size, 0, none⟩) hz).trans c0
  have c1 := (hb.cell (p := ⟨W.heap.size, 1, none⟩) hz).trans c1
  have c2 := (hb.cell (p := ⟨W.heap.size, 2, none⟩) hz).trans c2
  have hz := Nat.lt_of_lt_of_le hz hb.size
  clear hb
  go_wp2_with fail
  refine (word_any _ _ MW.out).mono ?_
  rintro e v' ⟨rfl, rfl⟩
  rw [show wordB (B w).data.toList = true by rw [L_B]; exact W1.out]
  go_wp2_with fail
  refine (read_any _ _ MS.out (HG0.out.below HB3.out).env).mono ?_
  rintro e v4 ⟨rfl, hb⟩
  rw [R2.out]
  have HB4 := Lib.hid (HB3.out.trans (hb.mono HB3.out.size))
  have c0 := (hb.cell (p := ⟨W.heap.size, 0, none⟩) hz).trans c0
  have c1 := (hb.cell (p := ⟨W.heap.size, 1, none⟩) hz).trans c1
  have c2 := (hb.cell (p := ⟨W.heap.size, 2, none⟩) hz).trans c2
  have hz := Nat.lt_of_lt_of_le hz hb.size
  clear hb
  go_wp2_with fail
  refine (pack_any _ _ _ _ MT.out).mono ?_
  rintro e v5 ⟨rfl, hb⟩
  rw [P3.out]
  have HB5 := Lib.hid (HB4.out.trans (hb.mono HB4.out.size))
  have c0 := (hb.cell (p := ⟨W.heap.size, 0, none⟩) hz).trans c0
  have c1 := (hb.cell (p := ⟨W.heap.size, 1, none⟩) hz).trans c1
  have c2 := (hb.cell (p := ⟨W.heap.size, 2, none⟩) hz).trans c2
  have hz := Nat.lt_of_lt_of_le hz hb.size
  clear hb
  go_wp2_with fail
  refine (unpack_any _ _ M3.out).mono ?_
  rintro e v6 ⟨rfl, hb⟩
  rw [U3.out]
  have HB6 := Lib.hid (HB5.out.trans (hb.mono HB5.out.size))
  have c0 := (hb.cell (p := ⟨W.heap.size, 0, none⟩) hz).trans c0
  have c1 := (hb.cell (p := ⟨W.heap.size, 1, none⟩) hz).trans c1
  have c2 := (hb.cell (p := ⟨W.heap.size, 2, none⟩) hz).trans c2
  have hz := Nat.lt_of_lt_of_le hz hb.size
  clear hb
  go_wp2_with fail
  refine (unpack_any _ _ MW.out).mono ?_
  rintro e v7 ⟨rfl, hb⟩
  rw [U4.out]
  have HB7 := Lib.hid ((HB6.out.alloc HB6.out.size _).trans (hb.mono (by have := HB6.out.size; simp; omega)))
  clear hb
  go_wp2_with fail
  refine (word_any _ _ MW.out).mono ?_
  rintro e v' ⟨rfl, rfl⟩
  rw [show wordB (B w).data.toList = true by rw [L_B]; exact W1.out]
  go_wp2_with fail
  go_ret
  exact ⟨rfl, HB7.out.alloc HB7.out.size _⟩

set_option maxRecDepth 100000 in
set_option maxHeartbeats 4000000 in
theorem round_ynny (w s : List UInt8) (k n : Int) (t : List UInt8) (W : World) (hG : Glob W) (hw : w.length ≤ 200) (hs : s.length ≤ 200) (ht : t.length ≤ 200) (h1 : wordB w = true) (p2 : ByteArray) (e2 : Int) (he2 : e2 ≠ 0) (h2 : readV s = .tuple #[.string p2, .int .i64 e2]) (h3 : validB k n t = false) (h4 : unB w = true) :
    Calls Tryd.prog 10 #[.string (B w), .string (B s), .agg #[.int .i64 k, .int .i64 n, .string (B t)]] W fun e w' => e = .returned (.bool true) ∧ Below W.heap.size W w' := by
  have hb0 : Below W.heap.size W (W.alloc (.cells #[.int .i64 k, .int .i64 n, .string (B t)] 65)) := (Below.refl _ W).alloc (Nat.le_refl _) _
  have HG := Lib.hid (hG.below hb0)
  have HG0 := Lib.hid hG
  have HB0 := Lib.hid hb0
  have mw : (B w).size ≤ maxLen := by rw [size_B]; unfold maxLen; omega
  have ms : (B s).size ≤ maxLen := by rw [size_B]; unfold maxLen; omega
  have mt : (B t).size ≤ maxLen := by rw [size_B]; unfold maxLen; omega
  have MW := Lib.hid mw; have MS := Lib.hid ms; have MT := Lib.hid mt
  have g1 : decide ((200 : Int) < w.length) = false := decide_eq_false (by omega)
  have g2 : decide ((200 : Int) < s.length) = false := decide_eq_false (by omega)
  have g3 : decide ((200 : Int) < t.length) = false := decide_eq_false (by omega)
  have W1 : Hid (wordB w = true) := Lib.hid h1
  have S1 : Hid (signalV (B w).data.toList = .tuple #[.string (B (signalL w)), .int .i64 0]) := Lib.hid (by rw [L_B]; exact signalV_ok h1)
  have R1 : Hid (readV (B (signalL w)).data.toList = .tuple #[.string (B w), .int .i64 0]) := Lib.hid (by rw [L_B]; exact read_signal h1)
  have M1 : Hid ((B (signalL w)).size ≤ maxLen) := Lib.hid (by rw [size_B]; have := signal_length h1; unfold maxLen; omega)
  have R2 : Hid (readV (B s).data.toList = .tuple #[.string p2, .int .i64 e2]) := Lib.hid (by rw [L_B]; exact h2)
  have q2 : (e2 == 0) = false := by simpa using he2
  have P3 : Hid (packV k n (B t).data.toList = .tuple #[.string ⟨#[]⟩, .int .i64 1]) := Lib.hid (by rw [L_B]; exact packV_no h3)
  obtain ⟨k4, ek4⟩ : ∃ k4, unK (w.getD 0 0) = k4 := ⟨_, rfl⟩
  obtain ⟨n4, en4⟩ : ∃ n4, unN w = n4 := ⟨_, rfl⟩
  obtain ⟨t4, et4⟩ : ∃ t4, w.drop 3 = t4 := ⟨_, rfl⟩
  have U4 : Hid (unpackV (B w).data.toList = .tuple #[.agg #[.int .i64 k4, .int .i64 n4, .string (B t4)], .int .i64 0]) := Lib.hid (by rw [L_B, unpackV_ok' h4, ek4, en4, et4])
  have P4 : Hid (packV k4 n4 (B t4).data.toList = .tuple #[.string (B w), .int .i64 0]) := Lib.hid (by rw [L_B, ← ek4, ← en4, ← et4]; exact pack_unpack h4)
  have M4 : Hid ((B t4).size ≤ maxLen) := Lib.hid (by rw [size_B, ← et4]; simp only [List.length_drop]; unfold maxLen; omega)
  clear ek4 en4 et4
  clear hG hb0 mw ms mt h1 h2 h3 h4 he2
  go_enter Tryd.func10, Tryd.ntmps10
  go_wp2_with fail
  refine (head_any _ HG.out).mono ?_
  rintro e v1 ⟨rfl, hb⟩
  have c0 := (hb.cell (p := ⟨W.heap.size, 0, none⟩) (by simp)).trans (show _ = some (.int .i64 k) by go_simp)
  have c1 := (hb.cell (p := ⟨W.heap.size, 1, none⟩) (by simp)).trans (show _ = some (.int .i64 n) by go_simp)
  have c2 := (hb.cell (p := ⟨W.heap.size, 2, none⟩) (by simp)).trans (show _ = some (.string (B t)) by go_simp)
  have hz : W.heap.size < v1.heap.size := Nat.lt_of_lt_of_le (by simp) hb.size
  have HB := Lib.hid (HB0.out.trans (hb.mono (by simp)))
  clear hb
  go_wp2_with fail
  refine (signal_any _ _ MW.out (HG0.out.below HB.out).env.1 (HG0.out.below HB.out).env.2).mono ?_
  rintro e v2 ⟨rfl, hb⟩
  rw [S1.out]
  have HB2 := Lib.hid (HB.out.trans (hb.mono HB.out.size))
  have c0 := (hb.cell (p := ⟨W.heap.size, 0, none⟩) hz).trans c0
  have c1 := (hb.cell (p := ⟨W.heap.size, 1, none⟩) hz).trans c1
  have c2 := (hb.cell (p := ⟨W.heap.size, 2, none⟩) hz).trans c2
  have hz := Nat.lt_of_lt_of_le hz hb.size
  clear hb
  go_wp2_with fail
  refine (read_any _ _ M1.out (HG0.out.below HB2.out).env).mono ?_
  rintro e v3 ⟨rfl, hb⟩
  rw [R1.out]
  have HB3 := Lib.hid (HB2.out.trans (hb.mono HB2.out.size))
  have c0 := (hb.cell (p := ⟨W.heap.size, 0, none⟩) hz).trans c0
  have c1 := (hb.cell (p := ⟨W.heap.size, 1, none⟩) hz).trans c1
  have c2 := (hb.cell (p := ⟨W.heap.size, 2, none⟩) hz).trans c2
  have hz := Nat.lt_of_lt_of_le hz hb.size
  clear hb
  go_wp2_with fail
  refine (word_any _ _ MW.out).mono ?_
  rintro e v' ⟨rfl, rfl⟩
  rw [show wordB (B w).data.toList = true by rw [L_B]; exact W1.out]
  go_wp2_with fail
  refine (read_any _ _ MS.out (HG0.out.below HB3.out).env).mono ?_
  rintro e v4 ⟨rfl, hb⟩
  rw [R2.out]
  have HB4 := Lib.hid (HB3.out.trans (hb.mono HB3.out.size))
  have c0 := (hb.cell (p := ⟨W.heap.size, 0, none⟩) hz).trans c0
  have c1 := (hb.cell (p := ⟨W.heap.size, 1, none⟩) hz).trans c1
  have c2 := (hb.cell (p := ⟨W.heap.size, 2, none⟩) hz).trans c2
  have hz := Nat.lt_of_lt_of_le hz hb.size
  clear hb
  go_wp2_with fail
  refine (pack_any _ _ _ _ MT.out).mono ?_
  rintro e v5 ⟨rfl, hb⟩
  rw [P3.out]
  have HB5 := Lib.hid (HB4.out.trans (hb.mono HB4.out.size))
  have c0 := (hb.cell (p := ⟨W.heap.size, 0, none⟩) hz).trans c0
  have c1 := (hb.cell (p := ⟨W.heap.size, 1, none⟩) hz).trans c1
  have c2 := (hb.cell (p := ⟨W.heap.size, 2, none⟩) hz).trans c2
  have hz := Nat.lt_of_lt_of_le hz hb.size
  clear hb
  go_wp2_with fail
  refine (unpack_any _ _ MW.out).mono ?_
  rintro e v6 ⟨rfl, hb⟩
  rw [U4.out]
  have HB6 := Lib.hid (HB5.out.trans (hb.mono HB5.out.size))
  clear hb
  go_wp2_with fail
  refine (pack_any _ _ _ _ M4.out).mono ?_
  rintro e v7 ⟨rfl, hb⟩
  rw [P4.out]
  have HB7 := Lib.hid ((HB6.out.alloc HB6.out.size _).trans (hb.mono (by have := HB6.out.size; simp; omega)))
  clear hb
  go_wp2_with fail
  refine (word_any _ _ MW.out).mono ?_
  rintro e v' ⟨rfl, rfl⟩
  rw [show wordB (B w).data.toList = true by rw [L_B]; exact W1.out]
  go_wp2_with fail
  go_ret
  exact ⟨rfl, HB7.out⟩

set_option maxRecDepth 100000 in
set_option maxHeartbeats 4000000 in
theorem round_ynnn (w s : List UInt8) (k n : Int) (t : List UInt8) (W : World) (hG : Glob W) (hw : w.length ≤ 200) (hs : s.length ≤ 200) (ht : t.length ≤ 200) (h1 : wordB w = true) (p2 : ByteArray) (e2 : Int) (he2 : e2 ≠ 0) (h2 : readV s = .tuple #[.string p2, .int .i64 e2]) (h3 : validB k n t = false) (h4 : unB w = false) :
    Calls Tryd.prog 10 #[.string (B w), .string (B s), .agg #[.int .i64 k, .int .i64 n, .string (B t)]] W fun e w' => e = .returned (.bool true) ∧ Below W.heap.size W w' := by
  have hb0 : Below W.heap.size W (W.alloc (.cells #[.int .i64 k, .int .i64 n, .string (B t)] 65)) := (Below.refl _ W).alloc (Nat.le_refl _) _
  have HG := Lib.hid (hG.below hb0)
  have HG0 := Lib.hid hG
  have HB0 := Lib.hid hb0
  have mw : (B w).size ≤ maxLen := by rw [size_B]; unfold maxLen; omega
  have ms : (B s).size ≤ maxLen := by rw [size_B]; unfold maxLen; omega
  have mt : (B t).size ≤ maxLen := by rw [size_B]; unfold maxLen; omega
  have MW := Lib.hid mw; have MS := Lib.hid ms; have MT := Lib.hid mt
  have g1 : decide ((200 : Int) < w.length) = false := decide_eq_false (by omega)
  have g2 : decide ((200 : Int) < s.length) = false := decide_eq_false (by omega)
  have g3 : decide ((200 : Int) < t.length) = false := decide_eq_false (by omega)
  have W1 : Hid (wordB w = true) := Lib.hid h1
  have S1 : Hid (signalV (B w).data.toList = .tuple #[.string (B (signalL w)), .int .i64 0]) := Lib.hid (by rw [L_B]; exact signalV_ok h1)
  have R1 : Hid (readV (B (signalL w)).data.toList = .tuple #[.string (B w), .int .i64 0]) := Lib.hid (by rw [L_B]; exact read_signal h1)
  have M1 : Hid ((B (signalL w)).size ≤ maxLen) := Lib.hid (by rw [size_B]; have := signal_length h1; unfold maxLen; omega)
  have R2 : Hid (readV (B s).data.toList = .tuple #[.string p2, .int .i64 e2]) := Lib.hid (by rw [L_B]; exact h2)
  have q2 : (e2 == 0) = false := by simpa using he2
  have P3 : Hid (packV k n (B t).data.toList = .tuple #[.string ⟨#[]⟩, .int .i64 1]) := Lib.hid (by rw [L_B]; exact packV_no h3)
  have U4 : Hid (unpackV (B w).data.toList = .tuple #[.agg #[.int .i64 0, .int .i64 0, .string ⟨#[]⟩], .int .i64 7]) := Lib.hid (by rw [L_B]; exact unpackV_no' h4)
  clear hG hb0 mw ms mt h1 h2 h3 h4 he2
  go_enter Tryd.func10, Tryd.ntmps10
  go_wp2_with fail
  refine (head_any _ HG.out).mono ?_
  rintro e v1 ⟨rfl, hb⟩
  have c0 := (hb.cell (p := ⟨W.heap.size, 0, none⟩) (by simp)).trans (show _ = some (.int .i64 k) by go_simp)
  have c1 := (hb.cell (p := ⟨W.heap.size, 1, none⟩) (by simp)).trans (show _ = some (.int .i64 n) by go_simp)
  have c2 := (hb.cell (p := ⟨W.heap.size, 2, none⟩) (by simp)).trans (show _ = some (.string (B t)) by go_simp)
  have hz : W.heap.size < v1.heap.size := Nat.lt_of_lt_of_le (by simp) hb.size
  have HB := Lib.hid (HB0.out.trans (hb.mono (by simp)))
  clear hb
  go_wp2_with fail
  refine (signal_any _ _ MW.out (HG0.out.below HB.out).env.1 (HG0.out.below HB.out).env.2).mono ?_
  rintro e v2 ⟨rfl, hb⟩
  rw [S1.out]
  have HB2 := Lib.hid (HB.out.trans (hb.mono HB.out.size))
  have c0 := (hb.cell (p := ⟨W.heap.size, 0, none⟩) hz).trans c0
  have c1 := (hb.cell (p := ⟨W.heap.size, 1, none⟩) hz).trans c1
  have c2 := (hb.cell (p := ⟨W.heap.size, 2, none⟩) hz).trans c2
  have hz := Nat.lt_of_lt_of_le hz hb.size
  clear hb
  go_wp2_with fail
  refine (read_any _ _ M1.out (HG0.out.below HB2.out).env).mono ?_
  rintro e v3 ⟨rfl, hb⟩
  rw [R1.out]
  have HB3 := Lib.hid (HB2.out.trans (hb.mono HB2.out.size))
  have c0 := (hb.cell (p := ⟨W.heap.size, 0, none⟩) hz).trans c0
  have c1 := (hb.cell (p := ⟨W.heap.size, 1, none⟩) hz).trans c1
  have c2 := (hb.cell (p := ⟨W.heap.size, 2, none⟩) hz).trans c2
  have hz := Nat.lt_of_lt_of_le hz hb.size
  clear hb
  go_wp2_with fail
  refine (word_any _ _ MW.out).mono ?_
  rintro e v' ⟨rfl, rfl⟩
  rw [show wordB (B w).data.toList = true by rw [L_B]; exact W1.out]
  go_wp2_with fail
  refine (read_any _ _ MS.out (HG0.out.below HB3.out).env).mono ?_
  rintro e v4 ⟨rfl, hb⟩
  rw [R2.out]
  have HB4 := Lib.hid (HB3.out.trans (hb.mono HB3.out.size))
  have c0 := (hb.cell (p := ⟨W.heap.size, 0, none⟩) hz).trans c0
  have c1 := (hb.cell (p := ⟨W.heap.size, 1, none⟩) hz).trans c1
  have c2 := (hb.cell (p := ⟨W.heap.size, 2, none⟩) hz).trans c2
  have hz := Nat.lt_of_lt_of_le hz hb.size
  clear hb
  go_wp2_with fail
  refine (pack_any _ _ _ _ MT.out).mono ?_
  rintro e v5 ⟨rfl, hb⟩
  rw [P3.out]
  have HB5 := Lib.hid (HB4.out.trans (hb.mono HB4.out.size))
  have c0 := (hb.cell (p := ⟨W.heap.size, 0, none⟩) hz).trans c0
  have c1 := (hb.cell (p := ⟨W.heap.size, 1, none⟩) hz).trans c1
  have c2 := (hb.cell (p := ⟨W.heap.size, 2, none⟩) hz).trans c2
  have hz := Nat.lt_of_lt_of_le hz hb.size
  clear hb
  go_wp2_with fail
  refine (unpack_any _ _ MW.out).mono ?_
  rintro e v6 ⟨rfl, hb⟩
  rw [U4.out]
  have HB6 := Lib.hid (HB5.out.trans (hb.mono HB5.out.size))
  clear hb
  go_wp2_with fail
  refine (word_any _ _ MW.out).mono ?_
  rintro e v' ⟨rfl, rfl⟩
  rw [show wordB (B w).data.toList = true by rw [L_B]; exact W1.out]
  go_wp2_with fail
  go_ret
  exact ⟨rfl, HB6.out.alloc HB6.out.size _⟩

set_option maxRecDepth 100000 in
set_option maxHeartbeats 4000000 in
theorem round_nyyn (w s : List UInt8) (k n : Int) (t : List UInt8) (W : World) (hG : Glob W) (hw : w.length ≤ 200) (hs : s.length ≤ 200) (ht : t.length ≤ 200) (h1 : wordB w = false) (x : List UInt8) (hx : wordB x = true) (hx2 : signalL x = s) (h2 : readV s = .tuple #[.string (B x), .int .i64 0]) (h3 : validB k n t = true) (h4 : unB w = false) :
    Calls Tryd.prog 10 #[.string (B w), .string (B s), .agg #[.int .i64 k, .int .i64 n, .string (B t)]] W fun e w' => e = .returned (.bool true) ∧ Below W.heap.size W w' := by
  have hb0 : Below W.heap.size W (W.alloc (.cells #[.int .i64 k, .int .i64 n, .string (B t)] 65)) := (Below.refl _ W).alloc (Nat.le_refl _) _
  have HG := Lib.hid (hG.below hb0)
  have HG0 := Lib.hid hG
  have HB0 := Lib.hid hb0
  have mw : (B w).size ≤ maxLen := by rw [size_B]; unfold maxLen; omega
  have ms : (B s).size ≤ maxLen := by rw [size_B]; unfold maxLen; omega
  have mt : (B t).size ≤ maxLen := by rw [size_B]; unfold maxLen; omega
  have MW := Lib.hid mw; have MS := Lib.hid ms; have MT := Lib.hid mt
  have g1 : decide ((200 : Int) < w.length) = false := decide_eq_false (by omega)
  have g2 : decide ((200 : Int) < s.length) = false := decide_eq_false (by omega)
  have g3 : decide ((200 : Int) < t.length) = false := decide_eq_false (by omega)
  have W1 : Hid (wordB w = false) := Lib.hid h1
  have S1 : Hid (signalV (B w).data.toList = .tuple #[.string ⟨#[]⟩, .int .i64 7]) := Lib.hid (by rw [L_B]; exact signalV_no h1)
  have R2 : Hid (readV (B s).data.toList = .tuple #[.string (B x), .int .i64 0]) := Lib.hid (by rw [L_B]; exact h2)
  have S2 : Hid (signalV (B x).data.toList = .tuple #[.string (B s), .int .i64 0]) := Lib.hid (by rw [L_B, signalV_ok hx, hx2])
  have M2 : Hid ((B x).size ≤ maxLen) := Lib.hid (by rw [size_B]; have := (word_parts hx).2.1; unfold maxLen; omega)
  have P3 : Hid (packV k n (B t).data.toList = .tuple #[.string (B (pkL k n t)), .int .i64 0]) := Lib.hid (by rw [L_B]; exact packV_ok h3)
  have U3 : Hid (unpackV (B (pkL k n t)).data.toList = .tuple #[.agg #[.int .i64 k, .int .i64 n, .string (B t)], .int .i64 0]) := Lib.hid (by rw [L_B]; exact unpack_pack h3)
  have M3 : Hid ((B (pkL k n t)).size ≤ maxLen) := Lib.hid (by rw [size_B]; unfold pkL maxLen; simp; omega)
  have U4 : Hid (unpackV (B w).data.toList = .tuple #[.agg #[.int .i64 0, .int .i64 0, .string ⟨#[]⟩], .int .i64 7]) := Lib.hid (by rw [L_B]; exact unpackV_no' h4)
  clear hG hb0 mw ms mt h1 h2 h3 h4 hx hx2
  go_enter Tryd.func10, Tryd.ntmps10
  go_wp2_with fail
  refine (head_any _ HG.out).mono ?_
  rintro e v1 ⟨rfl, hb⟩
  have c0 := (hb.cell (p := ⟨W.heap.size, 0, none⟩) (by simp)).trans (show _ = some (.int .i64 k) by go_simp)
  have c1 := (hb.cell (p := ⟨W.heap.size, 1, none⟩) (by simp)).trans (show _ = some (.int .i64 n) by go_simp)
  have c2 := (hb.cell (p := ⟨W.heap.size, 2, none⟩) (by simp)).trans (show _ = some (.string (B t)) by go_simp)
  have hz : W.heap.size < v1.heap.size := Nat.lt_of_lt_of_le (by simp) hb.size
  have HB := Lib.hid (HB0.out.trans (hb.mono (by simp)))
  clear hb
  go_wp2_with fail
  refine (signal_any _ _ MW.out (HG0.out.below HB.out).env.1 (HG0.out.below HB.out).env.2).mono ?_
  rintro e v2 ⟨rfl, hb⟩
  rw [S1.out]
  have HB2 := Lib.hid (HB.out.trans (hb.mono HB.out.size))
  have c0 := (hb.cell (p := ⟨W.heap.size, 0, none⟩) hz).trans c0
  have c1 := (hb.cell (p := ⟨W.heap.size, 1, none⟩) hz).trans c1
  have c2 := (hb.cell (p := ⟨W.heap.size, 2, none⟩) hz).trans c2
  have hz := Nat.lt_of_lt_of_le hz hb.size
  clear hb
  go_wp2_with fail
  refine (read_any _ _ MS.out (HG0.out.below HB2.out).env).mono ?_
  rintro e v3 ⟨rfl, hb⟩
  rw [R2.out]
  have HB3 := Lib.hid (HB2.out.trans (hb.mono HB2.out.size))
  have c0 := (hb.cell (p := ⟨W.heap.size, 0, none⟩) hz).trans c0
  have c1 := (hb.cell (p := ⟨W.heap.size, 1, none⟩) hz).trans c1
  have c2 := (hb.cell (p := ⟨W.heap.size, 2, none⟩) hz).trans c2
  have hz := Nat.lt_of_lt_of_le hz hb.size
  clear hb
  go_wp2_with fail
  refine (signal_any _ _ M2.out (HG0.out.below HB3.out).env.1 (HG0.out.below HB3.out).env.2).mono ?_
  rintro e v4 ⟨rfl, hb⟩
  rw [S2.out]
  have HB4 := Lib.hid (HB3.out.trans (hb.mono HB3.out.size))
  have c0 := (hb.cell (p := ⟨W.heap.size, 0, none⟩) hz).trans c0
  have c1 := (hb.cell (p := ⟨W.heap.size, 1, none⟩) hz).trans c1
  have c2 := (hb.cell (p := ⟨W.heap.size, 2, none⟩) hz).trans c2
  have hz := Nat.lt_of_lt_of_le hz hb.size
  clear hb
  go_wp2_with fail
  refine (pack_any _ _ _ _ MT.out).mono ?_
  rintro e v5 ⟨rfl, hb⟩
  rw [P3.out]
  have HB5 := Lib.hid (HB4.out.trans (hb.mono HB4.out.size))
  have c0 := (hb.cell (p := ⟨W.heap.size, 0, none⟩) hz).trans c0
  have c1 := (hb.cell (p := ⟨W.heap.size, 1, none⟩) hz).trans c1
  have c2 := (hb.cell (p := ⟨W.heap.size, 2, none⟩) hz).trans c2
  have hz := Nat.lt_of_lt_of_le hz hb.size
  clear hb
  go_wp2_with fail
  refine (unpack_any _ _ M3.out).mono ?_
  rintro e v6 ⟨rfl, hb⟩
  rw [U3.out]
  have HB6 := Lib.hid (HB5.out.trans (hb.mono HB5.out.size))
  have c0 := (hb.cell (p := ⟨W.heap.size, 0, none⟩) hz).trans c0
  have c1 := (hb.cell (p := ⟨W.heap.size, 1, none⟩) hz).trans c1
  have c2 := (hb.cell (p := ⟨W.heap.size, 2, none⟩) hz).trans c2
  have hz := Nat.lt_of_lt_of_le hz hb.size
  clear hb
  go_wp2_with fail
  refine (unpack_any _ _ MW.out).mono ?_
  rintro e v7 ⟨rfl, hb⟩
  rw [U4.out]
  have HB7 := Lib.hid ((HB6.out.alloc HB6.out.size _).trans (hb.mono (by have := HB6.out.size; simp; omega)))
  clear hb
  go_wp2_with fail
  refine (word_any _ _ MW.out).mono ?_
  rintro e v' ⟨rfl, rfl⟩
  rw [show wordB (B w).data.toList = false by rw [L_B]; exact W1.out]
  go_wp2_with fail
  go_ret
  exact ⟨rfl, HB7.out.alloc HB7.out.size _⟩

set_option maxRecDepth 100000 in
set_option maxHeartbeats 4000000 in
theorem round_nynn (w s : List UInt8) (k n : Int) (t : List UInt8) (W : World) (hG : Glob W) (hw : w.length ≤ 200) (hs : s.length ≤ 200) (ht : t.length ≤ 200) (h1 : wordB w = false) (x : List UInt8) (hx : wordB x = true) (hx2 : signalL x = s) (h2 : readV s = .tuple #[.string (B x), .int .i64 0]) (h3 : validB k n t = false) (h4 : unB w = false) :
    Calls Tryd.prog 10 #[.string (B w), .string (B s), .agg #[.int .i64 k, .int .i64 n, .string (B t)]] W fun e w' => e = .returned (.bool true) ∧ Below W.heap.size W w' := by
  have hb0 : Below W.heap.size W (W.alloc (.cells #[.int .i64 k, .int .i64 n, .string (B t)] 65)) := (Below.refl _ W).alloc (Nat.le_refl _) _
  have HG := Lib.hid (hG.below hb0)
  have HG0 := Lib.hid hG
  have HB0 := Lib.hid hb0
  have mw : (B w).size ≤ maxLen := by rw [size_B]; unfold maxLen; omega
  have ms : (B s).size ≤ maxLen := by rw [size_B]; unfold maxLen; omega
  have mt : (B t).size ≤ maxLen := by rw [size_B]; unfold maxLen; omega
  have MW := Lib.hid mw; have MS := Lib.hid ms; have MT := Lib.hid mt
  have g1 : decide ((200 : Int) < w.length) = false := decide_eq_false (by omega)
  have g2 : decide ((200 : Int) < s.length) = false := decide_eq_false (by omega)
  have g3 : decide ((200 : Int) < t.length) = false := decide_eq_false (by omega)
  have W1 : Hid (wordB w = false) := Lib.hid h1
  have S1 : Hid (signalV (B w).data.toList = .tuple #[.string ⟨#[]⟩, .int .i64 7]) := Lib.hid (by rw [L_B]; exact signalV_no h1)
  have R2 : Hid (readV (B s).data.toList = .tuple #[.string (B x), .int .i64 0]) := Lib.hid (by rw [L_B]; exact h2)
  have S2 : Hid (signalV (B x).data.toList = .tuple #[.string (B s), .int .i64 0]) := Lib.hid (by rw [L_B, signalV_ok hx, hx2])
  have M2 : Hid ((B x).size ≤ maxLen) := Lib.hid (by rw [size_B]; have := (word_parts hx).2.1; unfold maxLen; omega)
  have P3 : Hid (packV k n (B t).data.toList = .tuple #[.string ⟨#[]⟩, .int .i64 1]) := Lib.hid (by rw [L_B]; exact packV_no h3)
  have U4 : Hid (unpackV (B w).data.toList = .tuple #[.agg #[.int .i64 0, .int .i64 0, .string ⟨#[]⟩], .int .i64 7]) := Lib.hid (by rw [L_B]; exact unpackV_no' h4)
  clear hG hb0 mw ms mt h1 h2 h3 h4 hx hx2
  go_enter Tryd.func10, Tryd.ntmps10
  go_wp2_with fail
  refine (head_any _ HG.out).mono ?_
  rintro e v1 ⟨rfl, hb⟩
  have c0 := (hb.cell (p := ⟨W.heap.size, 0, none⟩) (by simp)).trans (show _ = some (.int .i64 k) by go_simp)
  have c1 := (hb.cell (p := ⟨W.heap.size, 1, none⟩) (by simp)).trans (show _ = some (.int .i64 n) by go_simp)
  have c2 := (hb.cell (p := ⟨W.heap.size, 2, none⟩) (by simp)).trans (show _ = some (.string (B t)) by go_simp)
  have hz : W.heap.size < v1.heap.size := Nat.lt_of_lt_of_le (by simp) hb.size
  have HB := Lib.hid (HB0.out.trans (hb.mono (by simp)))
  clear hb
  go_wp2_with fail
  refine (signal_any _ _ MW.out (HG0.out.below HB.out).env.1 (HG0.out.below HB.out).env.2).mono ?_
  rintro e v2 ⟨rfl, hb⟩
  rw [S1.out]
  have HB2 := Lib.hid (HB.out.trans (hb.mono HB.out.size))
  have c0 := (hb.cell (p := ⟨W.heap.size, 0, none⟩) hz).trans c0
  have c1 := (hb.cell (p := ⟨W.heap.size, 1, none⟩) hz).trans c1
  have c2 := (hb.cell (p := ⟨W.heap.size, 2, none⟩) hz).trans c2
  have hz := Nat.lt_of_lt_of_le hz hb.size
  clear hb
  go_wp2_with fail
  refine (read_any _ _ MS.out (HG0.out.below HB2.out).env).mono ?_
  rintro e v3 ⟨rfl, hb⟩
  rw [R2.out]
  have HB3 := Lib.hid (HB2.out.trans (hb.mono HB2.out.size))
  have c0 := (hb.cell (p := ⟨W.heap.size, 0, none⟩) hz).trans c0
  have c1 := (hb.cell (p := ⟨W.heap.size, 1, none⟩) hz).trans c1
  have c2 := (hb.cell (p := ⟨W.heap.size, 2, none⟩) hz).trans c2
  have hz := Nat.lt_of_lt_of_le hz hb.size
  clear hb
  go_wp2_with fail
  refine (signal_any _ _ M2.out (HG0.out.below HB3.out).env.1 (HG0.out.below HB3.out).env.2).mono ?_
  rintro e v4 ⟨rfl, hb⟩
  rw [S2.out]
  have HB4 := Lib.hid (HB3.out.trans (hb.mono HB3.out.size))
  have c0 := (hb.cell (p := ⟨W.heap.size, 0, none⟩) hz).trans c0
  have c1 := (hb.cell (p := ⟨W.heap.size, 1, none⟩) hz).trans c1
  have c2 := (hb.cell (p := ⟨W.heap.size, 2, none⟩) hz).trans c2
  have hz := Nat.lt_of_lt_of_le hz hb.size
  clear hb
  go_wp2_with fail
  refine (pack_any _ _ _ _ MT.out).mono ?_
  rintro e v5 ⟨rfl, hb⟩
  rw [P3.out]
  have HB5 := Lib.hid (HB4.out.trans (hb.mono HB4.out.size))
  have c0 := (hb.cell (p := ⟨W.heap.size, 0, none⟩) hz).trans c0
  have c1 := (hb.cell (p := ⟨W.heap.size, 1, none⟩) hz).trans c1
  have c2 := (hb.cell (p := ⟨W.heap.size, 2, none⟩) hz).trans c2
  have hz := Nat.lt_of_lt_of_le hz hb.size
  clear hb
  go_wp2_with fail
  refine (unpack_any _ _ MW.out).mono ?_
  rintro e v6 ⟨rfl, hb⟩
  rw [U4.out]
  have HB6 := Lib.hid (HB5.out.trans (hb.mono HB5.out.size))
  clear hb
  go_wp2_with fail
  refine (word_any _ _ MW.out).mono ?_
  rintro e v' ⟨rfl, rfl⟩
  rw [show wordB (B w).data.toList = false by rw [L_B]; exact W1.out]
  go_wp2_with fail
  go_ret
  exact ⟨rfl, HB6.out.alloc HB6.out.size _⟩

set_option maxRecDepth 100000 in
set_option maxHeartbeats 4000000 in
theorem round_nnyn (w s : List UInt8) (k n : Int) (t : List UInt8) (W : World) (hG : Glob W) (hw : w.length ≤ 200) (hs : s.length ≤ 200) (ht : t.length ≤ 200) (h1 : wordB w = false) (p2 : ByteArray) (e2 : Int) (he2 : e2 ≠ 0) (h2 : readV s = .tuple #[.string p2, .int .i64 e2]) (h3 : validB k n t = true) (h4 : unB w = false) :
    Calls Tryd.prog 10 #[.string (B w), .string (B s), .agg #[.int .i64 k, .int .i64 n, .string (B t)]] W fun e w' => e = .returned (.bool true) ∧ Below W.heap.size W w' := by
  have hb0 : Below W.heap.size W (W.alloc (.cells #[.int .i64 k, .int .i64 n, .string (B t)] 65)) := (Below.refl _ W).alloc (Nat.le_refl _) _
  have HG := Lib.hid (hG.below hb0)
  have HG0 := Lib.hid hG
  have HB0 := Lib.hid hb0
  have mw : (B w).size ≤ maxLen := by rw [size_B]; unfold maxLen; omega
  have ms : (B s).size ≤ maxLen := by rw [size_B]; unfold maxLen; omega
  have mt : (B t).size ≤ maxLen := by rw [size_B]; unfold maxLen; omega
  have MW := Lib.hid mw; have MS := Lib.hid ms; have MT := Lib.hid mt
  have g1 : decide ((200 : Int) < w.length) = false := decide_eq_false (by omega)
  have g2 : decide ((200 : Int) < s.length) = false := decide_eq_false (by omega)
  have g3 : decide ((200 : Int) < t.length) = false := decide_eq_false (by omega)
  have W1 : Hid (wordB w = false) := Lib.hid h1
  have S1 : Hid (signalV (B w).data.toList = .tuple #[.string ⟨#[]⟩, .int .i64 7]) := Lib.hid (by rw [L_B]; exact signalV_no h1)
  have R2 : Hid (readV (B s).data.toList = .tuple #[.string p2, .int .i64 e2]) := Lib.hid (by rw [L_B]; exact h2)
  have q2 : (e2 == 0) = false := by simpa using he2
  have P3 : Hid (packV k n (B t).data.toList = .tuple #[.string (B (pkL k n t)), .int .i64 0]) := Lib.hid (by rw [L_B]; exact packV_ok h3)
  have U3 : Hid (unpackV (B (pkL k n t)).data.toList = .tuple #[.agg #[.int .i64 k, .int .i64 n, .string (B t)], .int .i64 0]) := Lib.hid (by rw [L_B]; exact unpack_pack h3)
  have M3 : Hid ((B (pkL k n t)).size ≤ maxLen) := Lib.hid (by rw [size_B]; unfold pkL maxLen; simp; omega)
  have U4 : Hid (unpackV (B w).data.toList = .tuple #[.agg #[.int .i64 0, .int .i64 0, .string ⟨#[]⟩], .int .i64 7]) := Lib.hid (by rw [L_B]; exact unpackV_no' h4)
  clear hG hb0 mw ms mt h1 h2 h3 h4 he2
  go_enter Tryd.func10, Tryd.ntmps10
  go_wp2_with fail
  refine (head_any _ HG.out).mono ?_
  rintro e v1 ⟨rfl, hb⟩
  have c0 := (hb.cell (p := ⟨W.heap.size, 0, none⟩) (by simp)).trans (show _ = some (.int .i64 k) by go_simp)
  have c1 := (hb.cell (p := ⟨W.heap.size, 1, none⟩) (by simp)).trans (show _ = some (.int .i64 n) by go_simp)
  have c2 := (hb.cell (p := ⟨W.heap.size, 2, none⟩) (by simp)).trans (show _ = some (.string (B t)) by go_simp)
  have hz : W.heap.size < v1.heap.size := Nat.lt_of_lt_of_le (by simp) hb.size
  have HB := Lib.hid (HB0.out.trans (hb.mono (by simp)))
  clear hb
  go_wp2_with fail
  refine (signal_any _ _ MW.out (HG0.out.below HB.out).env.1 (HG0.out.below HB.out).env.2).mono ?_
  rintro e v2 ⟨rfl, hb⟩
  rw [S1.out]
  have HB2 := Lib.hid (HB.out.trans (hb.mono HB.out.size))
  have c0 := (hb.cell (p := ⟨W.heap.size, 0, none⟩) hz).trans c0
  have c1 := (hb.cell (p := ⟨W.heap.size, 1, none⟩) hz).trans c1
  have c2 := (hb.cell (p := ⟨W.heap.size, 2, none⟩) hz).trans c2
  have hz := Nat.lt_of_lt_of_le hz hb.size
  clear hb
  go_wp2_with fail
  refine (read_any _ _ MS.out (HG0.out.below HB2.out).env).mono ?_
  rintro e v3 ⟨rfl, hb⟩
  rw [R2.out]
  have HB3 := Lib.hid (HB2.out.trans (hb.mono HB2.out.size))
  have c0 := (hb.cell (p := ⟨W.heap.size, 0, none⟩) hz).trans c0
  have c1 := (hb.cell (p := ⟨W.heap.size, 1, none⟩) hz).trans c1
  have c2 := (hb.cell (p := ⟨W.heap.size, 2, none⟩) hz).trans c2
  have hz := Nat.lt_of_lt_of_le hz hb.size
  clear hb
  go_wp2_with fail
  refine (pack_any _ _ _ _ MT.out).mono ?_
  rintro e v4 ⟨rfl, hb⟩
  rw [P3.out]
  have HB4 := Lib.hid (HB3.out.trans (hb.mono HB3.out.size))
  have c0 := (hb.cell (p := ⟨W.heap.size, 0, none⟩) hz).trans c0
  have c1 := (hb.cell (p := ⟨W.heap.size, 1, none⟩) hz).trans c1
  have c2 := (hb.cell (p := ⟨W.heap.size, 2, none⟩) hz).trans c2
  have hz := Nat.lt_of_lt_of_le hz hb.size
  clear hb
  go_wp2_with fail
  refine (unpack_any _ _ M3.out).mono ?_
  rintro e v5 ⟨rfl, hb⟩
  rw [U3.out]
  have HB5 := Lib.hid (HB4.out.trans (hb.mono HB4.out.size))
  have c0 := (hb.cell (p := ⟨W.heap.size, 0, none⟩) hz).trans c0
  have c1 := (hb.cell (p := ⟨W.heap.size, 1, none⟩) hz).trans c1
  have c2 := (hb.cell (p := ⟨W.heap.size, 2, none⟩) hz).trans c2
  have hz := Nat.lt_of_lt_of_le hz hb.size
  clear hb
  go_wp2_with fail
  refine (unpack_any _ _ MW.out).mono ?_
  rintro e v6 ⟨rfl, hb⟩
  rw [U4.out]
  have HB6 := Lib.hid ((HB5.out.alloc HB5.out.size _).trans (hb.mono (by have := HB5.out.size; simp; omega)))
  clear hb
  go_wp2_with fail
  refine (word_any _ _ MW.out).mono ?_
  rintro e v' ⟨rfl, rfl⟩
  rw [show wordB (B w).data.toList = false by rw [L_B]; exact W1.out]
  go_wp2_with fail
  go_ret
  exact ⟨rfl, HB6.out.alloc HB6.out.size _⟩

set_option maxRecDepth 100000 in
set_option maxHeartbeats 4000000 in
theorem round_nnnn (w s : List UInt8) (k n : Int) (t : List UInt8) (W : World) (hG : Glob W) (hw : w.length ≤ 200) (hs : s.length ≤ 200) (ht : t.length ≤ 200) (h1 : wordB w = false) (p2 : ByteArray) (e2 : Int) (he2 : e2 ≠ 0) (h2 : readV s = .tuple #[.string p2, .int .i64 e2]) (h3 : validB k n t = false) (h4 : unB w = false) :
    Calls Tryd.prog 10 #[.string (B w), .string (B s), .agg #[.int .i64 k, .int .i64 n, .string (B t)]] W fun e w' => e = .returned (.bool true) ∧ Below W.heap.size W w' := by
  have hb0 : Below W.heap.size W (W.alloc (.cells #[.int .i64 k, .int .i64 n, .string (B t)] 65)) := (Below.refl _ W).alloc (Nat.le_refl _) _
  have HG := Lib.hid (hG.below hb0)
  have HG0 := Lib.hid hG
  have HB0 := Lib.hid hb0
  have mw : (B w).size ≤ maxLen := by rw [size_B]; unfold maxLen; omega
  have ms : (B s).size ≤ maxLen := by rw [size_B]; unfold maxLen; omega
  have mt : (B t).size ≤ maxLen := by rw [size_B]; unfold maxLen; omega
  have MW := Lib.hid mw; have MS := Lib.hid ms; have MT := Lib.hid mt
  have g1 : decide ((200 : Int) < w.length) = false := decide_eq_false (by omega)
  have g2 : decide ((200 : Int) < s.length) = false := decide_eq_false (by omega)
  have g3 : decide ((200 : Int) < t.length) = false := decide_eq_false (by omega)
  have W1 : Hid (wordB w = false) := Lib.hid h1
  have S1 : Hid (signalV (B w).data.toList = .tuple #[.string ⟨#[]⟩, .int .i64 7]) := Lib.hid (by rw [L_B]; exact signalV_no h1)
  have R2 : Hid (readV (B s).data.toList = .tuple #[.string p2, .int .i64 e2]) := Lib.hid (by rw [L_B]; exact h2)
  have q2 : (e2 == 0) = false := by simpa using he2
  have P3 : Hid (packV k n (B t).data.toList = .tuple #[.string ⟨#[]⟩, .int .i64 1]) := Lib.hid (by rw [L_B]; exact packV_no h3)
  have U4 : Hid (unpackV (B w).data.toList = .tuple #[.agg #[.int .i64 0, .int .i64 0, .string ⟨#[]⟩], .int .i64 7]) := Lib.hid (by rw [L_B]; exact unpackV_no' h4)
  clear hG hb0 mw ms mt h1 h2 h3 h4 he2
  go_enter Tryd.func10, Tryd.ntmps10
  go_wp2_with fail
  refine (head_any _ HG.out).mono ?_
  rintro e v1 ⟨rfl, hb⟩
  have c0 := (hb.cell (p := ⟨W.heap.size, 0, none⟩) (by simp)).trans (show _ = some (.int .i64 k) by go_simp)
  have c1 := (hb.cell (p := ⟨W.heap.size, 1, none⟩) (by simp)).trans (show _ = some (.int .i64 n) by go_simp)
  have c2 := (hb.cell (p := ⟨W.heap.size, 2, none⟩) (by simp)).trans (show _ = some (.string (B t)) by go_simp)
  have hz : W.heap.size < v1.heap.size := Nat.lt_of_lt_of_le (by simp) hb.size
  have HB := Lib.hid (HB0.out.trans (hb.mono (by simp)))
  clear hb
  go_wp2_with fail
  refine (signal_any _ _ MW.out (HG0.out.below HB.out).env.1 (HG0.out.below HB.out).env.2).mono ?_
  rintro e v2 ⟨rfl, hb⟩
  rw [S1.out]
  have HB2 := Lib.hid (HB.out.trans (hb.mono HB.out.size))
  have c0 := (hb.cell (p := ⟨W.heap.size, 0, none⟩) hz).trans c0
  have c1 := (hb.cell (p := ⟨W.heap.size, 1, none⟩) hz).trans c1
  have c2 := (hb.cell (p := ⟨W.heap.size, 2, none⟩) hz).trans c2
  have hz := Nat.lt_of_lt_of_le hz hb.size
  clear hb
  go_wp2_with fail
  refine (read_any _ _ MS.out (HG0.out.below HB2.out).env).mono ?_
  rintro e v3 ⟨rfl, hb⟩
  rw [R2.out]
  have HB3 := Lib.hid (HB2.out.trans (hb.mono HB2.out.size))
  have c0 := (hb.cell (p := ⟨W.heap.size, 0, none⟩) hz).trans c0
  have c1 := (hb.cell (p := ⟨W.heap.size, 1, none⟩) hz).trans c1
  have c2 := (hb.cell (p := ⟨W.heap.size, 2, none⟩) hz).trans c2
  have hz := Nat.lt_of_lt_of_le hz hb.size
  clear hb
  go_wp2_with fail
  refine (pack_any _ _ _ _ MT.out).mono ?_
  rintro e v4 ⟨rfl, hb⟩
  rw [P3.out]
  have HB4 := Lib.hid (HB3.out.trans (hb.mono HB3.out.size))
  have c0 := (hb.cell (p := ⟨W.heap.size, 0, none⟩) hz).trans c0
  have c1 := (hb.cell (p := ⟨W.heap.size, 1, none⟩) hz).trans c1
  have c2 := (hb.cell (p := ⟨W.heap.size, 2, none⟩) hz).trans c2
  have hz := Nat.lt_of_lt_of_le hz hb.size
  clear hb
  go_wp2_with fail
  refine (unpack_any _ _ MW.out).mono ?_
  rintro e v5 ⟨rfl, hb⟩
  rw [U4.out]
  have HB5 := Lib.hid (HB4.out.trans (hb.mono HB4.out.size))
  clear hb
  go_wp2_with fail
  refine (word_any _ _ MW.out).mono ?_
  rintro e v' ⟨rfl, rfl⟩
  rw [show wordB (B w).data.toList = false by rw [L_B]; exact W1.out]
  go_wp2_with fail
  go_ret
  exact ⟨rfl, HB5.out.alloc HB5.out.size _⟩

set_option maxRecDepth 100000 in
set_option maxHeartbeats 4000000 in
theorem round_big0 (w s : ByteArray) (k n : Int) (t : ByteArray) (W : World) (hG : Glob W) (mw : w.size ≤ maxLen) (ms : s.size ≤ maxLen) (mt : t.size ≤ maxLen) (h : 200 < w.size) :
    Calls Tryd.prog 10 #[.string w, .string s, .agg #[.int .i64 k, .int .i64 n, .string t]] W fun e w' => e = .returned (.bool true) ∧ Below W.heap.size W w' := by
  have hb0 : Below W.heap.size W (W.alloc (.cells #[.int .i64 k, .int .i64 n, .string t] 65)) := (Below.refl _ W).alloc (Nat.le_refl _) _
  have HG := Lib.hid (hG.below hb0)
  have HB0 := Lib.hid hb0
  have g1 : (200 : Int) < w.size := by omega
  clear hG hb0 h
  go_enter Tryd.func10, Tryd.ntmps10
  go_wp2_with fail
  refine (head_any _ HG.out).mono ?_
  rintro e v1 ⟨rfl, hb⟩
  have c2 := (hb.cell (p := ⟨W.heap.size, 2, none⟩) (by simp)).trans (show _ = some (.string t) by go_simp)
  have HB := Lib.hid (HB0.out.trans (hb.mono (by simp)))
  clear hb
  go_wp2_with fail
  go_ret
  exact ⟨rfl, HB.out⟩

set_option maxRecDepth 100000 in
set_option maxHeartbeats 4000000 in
theorem round_big1 (w s : ByteArray) (k n : Int) (t : ByteArray) (W : World) (hG : Glob W) (mw : w.size ≤ maxLen) (ms : s.size ≤ maxLen) (mt : t.size ≤ maxLen) (h : w.size ≤ 200 ∧ 200 < s.size) :
    Calls Tryd.prog 10 #[.string w, .string s, .agg #[.int .i64 k, .int .i64 n, .string t]] W fun e w' => e = .returned (.bool true) ∧ Below W.heap.size W w' := by
  have hb0 : Below W.heap.size W (W.alloc (.cells #[.int .i64 k, .int .i64 n, .string t] 65)) := (Below.refl _ W).alloc (Nat.le_refl _) _
  have HG := Lib.hid (hG.below hb0)
  have HB0 := Lib.hid hb0
  have g1 : decide ((200 : Int) < w.size) = false := decide_eq_false (by omega)
  have g2 : (200 : Int) < s.size := by omega
  clear hG hb0 h
  go_enter Tryd.func10, Tryd.ntmps10
  go_wp2_with fail
  refine (head_any _ HG.out).mono ?_
  rintro e v1 ⟨rfl, hb⟩
  have c2 := (hb.cell (p := ⟨W.heap.size, 2, none⟩) (by simp)).trans (show _ = some (.string t) by go_simp)
  have HB := Lib.hid (HB0.out.trans (hb.mono (by simp)))
  clear hb
  go_wp2_with fail
  go_ret
  exact ⟨rfl, HB.out⟩

set_option maxRecDepth 100000 in
set_option maxHeartbeats 4000000 in
theorem round_big2 (w s : ByteArray) (k n : Int) (t : ByteArray) (W : World) (hG : Glob W) (mw : w.size ≤ maxLen) (ms : s.size ≤ maxLen) (mt : t.size ≤ maxLen) (h : w.size ≤ 200 ∧ s.size ≤ 200 ∧ 200 < t.size) :
    Calls Tryd.prog 10 #[.string w, .string s, .agg #[.int .i64 k, .int .i64 n, .string t]] W fun e w' => e = .returned (.bool true) ∧ Below W.heap.size W w' := by
  have hb0 : Below W.heap.size W (W.alloc (.cells #[.int .i64 k, .int .i64 n, .string t] 65)) := (Below.refl _ W).alloc (Nat.le_refl _) _
  have HG := Lib.hid (hG.below hb0)
  have HB0 := Lib.hid hb0
  have g1 : decide ((200 : Int) < w.size) = false := decide_eq_false (by omega)
  have g2 : decide ((200 : Int) < s.size) = false := decide_eq_false (by omega)
  have g3 : (200 : Int) < t.size := by omega
  clear hG hb0 h
  go_enter Tryd.func10, Tryd.ntmps10
  go_wp2_with fail
  refine (head_any _ HG.out).mono ?_
  rintro e v1 ⟨rfl, hb⟩
  have c2 := (hb.cell (p := ⟨W.heap.size, 2, none⟩) (by simp)).trans (show _ = some (.string t) by go_simp)
  have HB := Lib.hid (HB0.out.trans (hb.mono (by simp)))
  clear hb
  go_wp2_with fail
  go_ret
  exact ⟨rfl, HB.out⟩

theorem round_law (w s : ByteArray) (k n : Int) (t : ByteArray) (W : World) (hG : Glob W) (mw : w.size ≤ maxLen) (ms : s.size ≤ maxLen) (mt : t.size ≤ maxLen) :
    Calls Tryd.prog 10 #[.string w, .string s, .agg #[.int .i64 k, .int .i64 n, .string t]] W fun e w' => e = .returned (.bool true) ∧ Below W.heap.size W w' := by
  by_cases hw : 200 < w.size
  · exact round_big0 w s k n t W hG mw ms mt hw
  by_cases hs : 200 < s.size
  · exact round_big1 w s k n t W hG mw ms mt ⟨by omega, hs⟩
  by_cases ht : 200 < t.size
  · exact round_big2 w s k n t W hG mw ms mt ⟨by omega, by omega, ht⟩
  obtain ⟨wl, rfl⟩ : ∃ wl, w = B wl := ⟨_, (B_L w).symm⟩
  obtain ⟨sl, rfl⟩ : ∃ sl, s = B sl := ⟨_, (B_L s).symm⟩
  obtain ⟨tl, rfl⟩ : ∃ tl, t = B tl := ⟨_, (B_L t).symm⟩
  rw [size_B] at hw hs ht
  have hw' : wl.length ≤ 200 := by omega
  have hs' : sl.length ≤ 200 := by omega
  have ht' : tl.length ≤ 200 := by omega
  cases h4 : unB wl
  · cases h1 : wordB wl <;> cases h3 : validB k n tl <;> rcases read_cases sl with ⟨x, hx, hx2, h2⟩ | ⟨p2, e2, he2, h2⟩
    · exact round_nynn wl sl k n tl W hG hw' hs' ht' h1 x hx hx2 h2 h3 h4
    · exact round_nnnn wl sl k n tl W hG hw' hs' ht' h1 p2 e2 he2 h2 h3 h4
    · exact round_nyyn wl sl k n tl W hG hw' hs' ht' h1 x hx hx2 h2 h3 h4
    · exact round_nnyn wl sl k n tl W hG hw' hs' ht' h1 p2 e2 he2 h2 h3 h4
    · exact round_yynn wl sl k n tl W hG hw' hs' ht' h1 x hx hx2 h2 h3 h4
    · exact round_ynnn wl sl k n tl W hG hw' hs' ht' h1 p2 e2 he2 h2 h3 h4
    · exact round_yyyn wl sl k n tl W hG hw' hs' ht' h1 x hx hx2 h2 h3 h4
    · exact round_ynyn wl sl k n tl W hG hw' hs' ht' h1 p2 e2 he2 h2 h3 h4
  · have h1 := (unB_parts h4).1
    cases h3 : validB k n tl <;> rcases read_cases sl with ⟨x, hx, hx2, h2⟩ | ⟨p2, e2, he2, h2⟩
    · exact round_yyny wl sl k n tl W hG hw' hs' ht' h1 x hx hx2 h2 h3 h4
    · exact round_ynny wl sl k n tl W hG hw' hs' ht' h1 p2 e2 he2 h2 h3 h4
    · exact round_yyyy wl sl k n tl W hG hw' hs' ht' h1 x hx hx2 h2 h3 h4
    · exact round_ynyy wl sl k n tl W hG hw' hs' ht' h1 p2 e2 he2 h2 h3 h4
end Go.Proofs.YtglhlfabfcneeaaDoor
