/- The walk of BeamReadings. -/
import Derived.Test.YtjbdmlpadoiicaaGreatDoorG0
import Derived.Test.YtjbdmlpadoiicaaGreatDoorE11
import Derived.Test.YtjbdmlpadoiicaaGreatDoorO3
set_option linter.unusedVariables false
set_option linter.unusedSimpArgs false
namespace Go.Proofs.YtjbdmlpadoiicaaGreatDoor
open Go.RowKit Go.Shelf

set_option maxRecDepth 100000 in
set_option maxHeartbeats 1000000 in
theorem sents_any (v v' : Value) (l : List (List UInt8 × Int)) (w : World) (hl : l.length ≤ 10000000) (hv : PRow w v l) (hv' : PRow w v' l) :
    Calls Tryz.prog 12 #[v, v'] w fun e w' => e = .returned (.bool true) ∧ Below w.heap.size w w' := by
  obtain ⟨a, c, rfl, hc⟩ := hv.form
  obtain ⟨a', c', rfl, hc'⟩ := hv'.form
  have HC := Lib.hid hc; have HC' := Lib.hid hc'
  clear hc hc' hv hv'
  go_enter Tryz.func12, Tryz.ntmps12
  go_wp2_with fail
  go_loopw [5] (fun i wr => ∃ k : Nat, k ≤ l.length ∧ i = .int .i64 k ∧ Hid (Below w.heap.size w wr)) (fun i _ => l.length - (intOf i).toNat)
  case atStart => exact ⟨0, Nat.zero_le _, rfl, Lib.hid (Below.refl _ _)⟩
  case round =>
    obtain ⟨k, hk, rfl, hB⟩ := hrel
    by_cases hkl : k < l.length
    · obtain ⟨b, rfl, hb, h0, h1⟩ := HC.out k hkl
      obtain ⟨b', rfl, hb', h0', h1'⟩ := HC'.out k hkl
      have e0 : wr.cell? ⟨b, k * 2, none⟩ = some (.string (B (l.getD k ([], 0)).1)) := by rw [Nat.mul_comm]; exact (hB.out.cell (p := ⟨b, 2 * k, none⟩) hb).trans h0
      have e1 : wr.cell? ⟨b, k * 2 + 1, none⟩ = some (.int .i64 (l.getD k ([], 0)).2) := by rw [Nat.mul_comm]; exact (hB.out.cell (p := ⟨b, 2 * k + 1, none⟩) hb).trans h1
      have e0' : wr.cell? ⟨b', k * 2, none⟩ = some (.string (B (l.getD k ([], 0)).1)) := by rw [Nat.mul_comm]; exact (hB.out.cell (p := ⟨b', 2 * k, none⟩) hb').trans h0'
      have e1' : wr.cell? ⟨b', k * 2 + 1, none⟩ = some (.int .i64 (l.getD k ([], 0)).2) := by rw [Nat.mul_comm]; exact (hB.out.cell (p := ⟨b', 2 * k + 1, none⟩) hb').trans h1'
      obtain ⟨x, ex⟩ : ∃ x, l.getD k ([], 0) = x := ⟨_, rfl⟩
      rw [ex] at e0 e1 e0' e1'
      have hki : (k : Int) < l.length := by omega
      clear h0 h1 h0' h1' ex hb hb'
      go_wp2_with fail
      go_quiet (fail)
      go_wp2_with fail
      go_roundw
      case rel => exact ⟨k + 1, by omega, by go_num, Lib.hid (below_drewN hB.out _)⟩
      case measure => simp [intOf]; omega
    · obtain rfl : k = l.length := by omega
      go_wp2_with fail
      go_ret
      exact ⟨rfl, hB.out⟩

theorem Readings_fix (r : List UInt8) (m : Nat) (w : World) (hE : resE r m = 0) (hG : Glob w) {L : List (List UInt8 × Int)} (hL : L.Pairwise ltP) (hm : ∀ p, p ∈ L ↔ p ∈ foundL m r 10) :
    Calls Tryz.prog 8 #[.string (B r), .int .i64 m] w fun e w' => ∃ v, e = .returned (.tuple #[v, .int .i64 0]) ∧ PRow w' v L ∧ Below w.heap.size w w' :=
  (Readings_ok r m w hE hG).mono fun e w' ⟨v, L', he, hP, hL', hm', hb⟩ => by
    obtain rfl : L' = L := ltP_ext hL' hL fun p => (hm' p).trans (hm p).symm
    exact ⟨v, he, hP, hb⟩
theorem rReadings_fix (r : List UInt8) (m : Nat) (w : World) (hE : resE r m = 0) {L : List (List UInt8 × Int)} (hL : L.Pairwise ltP) (hm : ∀ p, p ∈ L ↔ p ∈ foundL m r 10) :
    Calls Tryz.prog 9 #[.string (B r), .int .i64 m] w fun e w' => ∃ v, e = .returned (.agg #[v, .int .i64 0]) ∧ PRow w' v L ∧ Below w.heap.size w w' := by
  obtain ⟨_, _, h3⟩ := resE_ok hE
  have hm2 : m ≤ 2 := by omega
  have hf : flashE r 100 = 0 := by unfold resE orI at hE; split at hE <;> assumption
  refine (rReadings_ok r m hm2 hf w).mono ?_
  rintro e w' ⟨v, ys, he, hP, hs, hy, hl, hb⟩
  have : refL r ys (m + 1) = L := ltP_ext (refL_strict hs _) hL fun p => (mem_ref hm2 hy p).trans (hm p).symm
  rw [this] at hP
  exact ⟨v, he, hP, hb⟩

set_option maxRecDepth 100000 in
set_option maxHeartbeats 2000000 in
theorem readings_law (rb : ByteArray) (n : Int) (W : World) (hG : Glob W) (mr : rb.size ≤ maxLen) :
    Calls Tryz.prog 3 #[.string rb, .int .i64 n] W fun e w' => e = .returned (.bool true) ∧ Below W.heap.size W w' := by
  obtain ⟨r, rfl⟩ : ∃ r, rb = B r := ⟨_, (B_L rb).symm⟩
  have HG := Lib.hid hG
  have MS := Lib.hid mr
  clear hG mr
  by_cases h1 : 200 < r.length
  · have g1 : (200 : Int) < r.length := by omega
    have g2 : (60 : Int) < r.length := by omega
    have g3 : decide ((r.length : Int) ≤ 100) = false := decide_eq_false (by omega)
    go_enter Tryz.func3, Tryz.ntmps3
    go_wp2_with fail
    refine (head_any _ HG.out).mono ?_
    rintro e v1 ⟨rfl, hb⟩
    have HB := Lib.hid hb
    clear hb
    go_wp2_with fail
    go_ret
    exact ⟨rfl, HB.out⟩
  by_cases h2 : 60 < r.length ∧ r.length ≤ 100
  · have g1 : (60 : Int) < r.length := by omega
    have g2 : (r.length : Int) ≤ 100 := by omega
    go_enter Tryz.func3, Tryz.ntmps3
    go_wp2_with fail
    refine (head_any _ HG.out).mono ?_
    rintro e v1 ⟨rfl, hb⟩
    have HB := Lib.hid hb
    clear hb
    go_wp2_with fail
    go_ret
    exact ⟨rfl, HB.out⟩
  have g0 : decide ((200 : Int) < r.length) = false := decide_eq_false (by omega)
  by_cases hE : resE r n = 0
  · obtain ⟨k1, k2, k3⟩ := resE_ok hE
    obtain ⟨m, rfl⟩ : ∃ m : Nat, n = m := ⟨n.toNat, by omega⟩
    have HE := Lib.hid hE
    have hrl : r.length ≤ 60 := by omega
    have g4 : decide ((60 : Int) < r.length) = false := decide_eq_false (by omega)
    have HCard := Lib.hid (found_card (m := m) (by omega) k1)
    clear h1 h2 hE k1 k2 k3
    go_enter Tryz.func3, Tryz.ntmps3
    go_wp2_with fail
    refine (head_any _ HG.out).mono ?_
    rintro e v1 ⟨rfl, hb⟩
    have HB := Lib.hid hb
    clear hb
    go_wp2_with fail
    refine (Readings_ok r m v1 HE.out (HG.out.below HB.out)).mono ?_
    rintro e v2 ⟨u1, L, rfl, hP1, hL, hmm, hb2⟩
    have HP1 := Lib.hid hP1; have HL := Lib.hid hL; have HM := Lib.hid hmm
    have HB2 := Lib.hid (HB.out.trans (hb2.mono HB.out.size))
    clear hP1 hL hmm hb2
    go_wp2_with fail
    refine (rReadings_fix r m v2 HE.out HL.out HM.out).mono ?_
    rintro e v3 ⟨u2, rfl, hP2, hb3⟩
    have HP2 := Lib.hid hP2
    have HP1' := Lib.hid (HP1.out.keep hb3)
    have HB3 := Lib.hid (HB2.out.trans (hb3.mono HB2.out.size))
    obtain ⟨a2, c2, e2, _⟩ := hP2.form
    subst e2
    clear hP2 hb3
    have HLL : Hid (L.length ≤ 1000000) := Lib.hid (by have := list_card HL.out HM.out; have := HCard.out; omega)
    have hGv3 : Glob v3 := HG.out.below HB3.out
    have hb4 : Below v3.heap.size v3 (v3.alloc (.cells #[.slice a2 L.length c2, .int .i64 0] 28)) := (Below.refl _ v3).alloc (Nat.le_refl _) _
    have HSu := Lib.hid (Sure_of (B r) m (v3.alloc (.cells #[.slice a2 L.length c2, .int .i64 0] 28)) L HLL.out (Readings_fix r m _ HE.out (hGv3.below hb4) HL.out HM.out))
    have HB4 := Lib.hid (HB3.out.trans (hb4.mono HB3.out.size))
    have HP1b := Lib.hid (HP1'.out.keep hb4)
    have HP2b := Lib.hid (HP2.out.keep hb4)
    have hx0 : (v3.alloc (.cells #[.slice a2 L.length c2, .int .i64 0] 28)).heap[v3.heap.size]? = some (.cells #[.slice a2 L.length c2, .int .i64 0] 28 (0, 0)) := heap_alloc_new v3 _
    have HX0 := Lib.hid hx0
    clear hGv3 hb4 hx0
    go_wp2_with fail
    refine HSu.out.mono ?_
    rintro e v4 ⟨rfl, hb5⟩
    have HRs := Lib.hid (rSure_of (B r) m v4 L HLL.out (rReadings_fix r m _ HE.out HL.out HM.out))
    have hx1 : v4.heap[v3.heap.size]? = some (.cells #[.slice a2 L.length c2, .int .i64 0] 28 (0, 0)) := (hb5.block _ (by simp)).trans HX0.out
    have HX1 := Lib.hid hx1
    have HB5 := Lib.hid (HB4.out.trans (hb5.mono HB4.out.size))
    have HP1c := Lib.hid (HP1b.out.keep hb5)
    have HP2c := Lib.hid (HP2b.out.keep hb5)
    clear hb5 hx1
    have HSV : Hid (sureV L = .tuple #[.string (B (sureL L).1), .int .i64 (sureL L).2]) := Lib.hid rfl
    rw [HSV.out]
    rw [HSV.out] at HRs
    go_wp2_with fail
    refine HRs.out.mono ?_
    rintro e v5 ⟨rfl, hb6⟩
    have hx2 : v5.heap[v3.heap.size]? = some (.cells #[.slice a2 L.length c2, .int .i64 0] 28 (0, 0)) := (hb6.block _ (Array.getElem?_eq_some_iff.1 HX1.out).1).trans HX1.out
    have hd0 : v5.cell? ⟨v3.heap.size, 0, none⟩ = some (.slice a2 L.length c2) := cell_of_heap hx2 0
    have HB6 := Lib.hid (HB5.out.trans (hb6.mono HB5.out.size))
    have HSe := Lib.hid (sents_any u1 (.slice a2 L.length c2) L v5 (by have := HLL.out; omega) (HP1c.out.keep hb6) (HP2c.out.keep hb6))
    have HX2 := Lib.hid hx2
    clear hb6 hx2
    go_wp2_with fail
    refine HSe.out.mono ?_
    rintro e v6 ⟨rfl, hb7⟩
    have hx3 : v6.heap[v3.heap.size]? = some (.cells #[.slice a2 L.length c2, .int .i64 0] 28 (0, 0)) := (hb7.block _ (Array.getElem?_eq_some_iff.1 HX2.out).1).trans HX2.out
    have hd1 : v6.cell? ⟨v3.heap.size, 1, none⟩ = some (.int .i64 0) := cell_of_heap hx3 1
    have HB7 := Lib.hid (HB6.out.trans (hb7.mono HB6.out.size))
    clear hb7 hx3 hd0
    go_wp2_with fail
    go_ret
    exact ⟨rfl, HB7.out⟩
  · have HE1 := Lib.hid (fun w => Readings_err (B r) n w MS.out (by rw [L_B]; exact hE))
    have HE2 := Lib.hid (fun w => rReadings_err (B r) n w MS.out (by rw [L_B]; exact hE))
    have HE3 := Lib.hid (fun w => Sure_bad (B r) n (resE (B r).data.toList n) w (by rw [L_B]; exact hE) (HE1.out w))
    have HE4 := Lib.hid (fun w => rSure_bad (B r) n (resE (B r).data.toList n) w (by rw [L_B]; exact hE) (HE2.out w))
    obtain ⟨q, eq⟩ : ∃ q, resE (B r).data.toList n = q := ⟨_, rfl⟩
    rw [eq] at HE1 HE2 HE3 HE4
    have HT : Hid (textsA (.slice none 0 0) q = .agg #[.slice none 0 0, .int .i64 q]) := Lib.hid rfl
    rw [HT.out] at HE2
    have gq : (decide ((60 : Int) < r.length) && decide ((r.length : Int) ≤ 100)) = false := by
      rw [Bool.and_eq_false_iff]
      by_cases h : 60 < r.length
      · right; exact decide_eq_false (by omega)
      · left; exact decide_eq_false (by omega)
    clear hE eq
    by_cases h4 : 60 < r.length
    · have g4 : (60 : Int) < r.length := by omega
      have g5 : decide ((r.length : Int) ≤ 100) = false := decide_eq_false (by omega)
      clear h1 h2 gq h4
      go_enter Tryz.func3, Tryz.ntmps3
      go_wp2_with fail
      refine (head_any _ HG.out).mono ?_
      rintro e v1 ⟨rfl, hb⟩
      have HB := Lib.hid hb
      clear hb
      go_wp2_with fail
      refine (HE1.out _).mono ?_
      rintro e v2 ⟨rfl, hb⟩
      have HB2 := Lib.hid (HB.out.trans (hb.mono HB.out.size))
      clear hb
      go_wp2_with fail
      refine (HE2.out _).mono ?_
      rintro e v3 ⟨rfl, hb⟩
      have HB3 := Lib.hid (HB2.out.trans (hb.mono HB2.out.size))
      clear hb
      go_wp2_with fail
      refine (HE3.out _).mono ?_
      rintro e v4 ⟨rfl, hb⟩
      have hx1 : v4.heap[v3.heap.size]? = some (.cells #[.slice none 0 0, .int .i64 q] 28 (0, 0)) := (hb.block _ (by simp)).trans (heap_alloc_new v3 _)
      have HX1 := Lib.hid hx1
      have HB4 := Lib.hid ((HB3.out.alloc HB3.out.size _).trans (hb.mono (Nat.le_trans HB3.out.size (by simp))))
      clear hb hx1
      go_wp2_with fail
      refine (HE4.out _).mono ?_
      rintro e v5 ⟨rfl, hb⟩
      have hx2 : v5.heap[v3.heap.size]? = some (.cells #[.slice none 0 0, .int .i64 q] 28 (0, 0)) := (hb.block _ (Array.getElem?_eq_some_iff.1 HX1.out).1).trans HX1.out
      have hd0 : v5.cell? ⟨v3.heap.size, 0, none⟩ = some (.slice none 0 0) := cell_of_heap hx2 0
      have HX2 := Lib.hid hx2
      have HB5 := Lib.hid (HB4.out.trans (hb.mono HB4.out.size))
      have HSe := Lib.hid (sents_any (.slice none 0 0) (.slice none 0 0) [] v5 (by simp) (.inl ⟨rfl, rfl⟩) (.inl ⟨rfl, rfl⟩))
      clear hb hx2
      go_wp2_with fail
      refine HSe.out.mono ?_
      rintro e v6 ⟨rfl, hb⟩
      have hx3 : v6.heap[v3.heap.size]? = some (.cells #[.slice none 0 0, .int .i64 q] 28 (0, 0)) := (hb.block _ (Array.getElem?_eq_some_iff.1 HX2.out).1).trans HX2.out
      have hd1 : v6.cell? ⟨v3.heap.size, 1, none⟩ = some (.int .i64 q) := cell_of_heap hx3 1
      have HB6 := Lib.hid (HB5.out.trans (hb.mono HB5.out.size))
      clear hb hx3 hd0
      go_wp2_with fail
      go_ret
      exact ⟨rfl, HB6.out⟩
    · have g4 : decide ((60 : Int) < r.length) = false := decide_eq_false (by omega)
      clear h1 h2 gq h4
      go_enter Tryz.func3, Tryz.ntmps3
      go_wp2_with fail
      refine (head_any _ HG.out).mono ?_
      rintro e v1 ⟨rfl, hb⟩
      have HB := Lib.hid hb
      clear hb
      go_wp2_with fail
      refine (HE1.out _).mono ?_
      rintro e v2 ⟨rfl, hb⟩
      have HB2 := Lib.hid (HB.out.trans (hb.mono HB.out.size))
      clear hb
      go_wp2_with fail
      refine (HE2.out _).mono ?_
      rintro e v3 ⟨rfl, hb⟩
      have HB3 := Lib.hid (HB2.out.trans (hb.mono HB2.out.size))
      clear hb
      go_wp2_with fail
      refine (HE3.out _).mono ?_
      rintro e v4 ⟨rfl, hb⟩
      have hx1 : v4.heap[v3.heap.size]? = some (.cells #[.slice none 0 0, .int .i64 q] 28 (0, 0)) := (hb.block _ (by simp)).trans (heap_alloc_new v3 _)
      have HX1 := Lib.hid hx1
      have HB4 := Lib.hid ((HB3.out.alloc HB3.out.size _).trans (hb.mono (Nat.le_trans HB3.out.size (by simp))))
      clear hb hx1
      go_wp2_with fail
      refine (HE4.out _).mono ?_
      rintro e v5 ⟨rfl, hb⟩
      have hx2 : v5.heap[v3.heap.size]? = some (.cells #[.slice none 0 0, .int .i64 q] 28 (0, 0)) := (hb.block _ (Array.getElem?_eq_some_iff.1 HX1.out).1).trans HX1.out
      have hd0 : v5.cell? ⟨v3.heap.size, 0, none⟩ = some (.slice none 0 0) := cell_of_heap hx2 0
      have HX2 := Lib.hid hx2
      have HB5 := Lib.hid (HB4.out.trans (hb.mono HB4.out.size))
      have HSe := Lib.hid (sents_any (.slice none 0 0) (.slice none 0 0) [] v5 (by simp) (.inl ⟨rfl, rfl⟩) (.inl ⟨rfl, rfl⟩))
      clear hb hx2
      go_wp2_with fail
      refine HSe.out.mono ?_
      rintro e v6 ⟨rfl, hb⟩
      have hx3 : v6.heap[v3.heap.size]? = some (.cells #[.slice none 0 0, .int .i64 q] 28 (0, 0)) := (hb.block _ (Array.getElem?_eq_some_iff.1 HX2.out).1).trans HX2.out
      have hd1 : v6.cell? ⟨v3.heap.size, 1, none⟩ = some (.int .i64 q) := cell_of_heap hx3 1
      have HB6 := Lib.hid (HB5.out.trans (hb.mono HB5.out.size))
      clear hb hx3 hd0
      go_wp2_with fail
      go_ret
      exact ⟨rfl, HB6.out⟩
end Go.Proofs.YtjbdmlpadoiicaaGreatDoor
