/- Readings of both where there is an error. -/
import Derived.Test.YtjbdmlpadoiicaaGreatDoorO2
import Derived.Test.YtjbdmlpadoiicaaGreatDoorF4
set_option linter.unusedVariables false
set_option linter.unusedSimpArgs false
namespace Go.Proofs.YtjbdmlpadoiicaaGreatDoor
open Go.RowKit Go.Shelf

set_option maxRecDepth 100000 in
theorem rReadings_err (s : ByteArray) (n : Int) (w : World) (hs : s.size ≤ maxLen) (hE : resE s.data.toList n ≠ 0) :
    Calls Tryz.prog 9 #[.string s, .int .i64 n] w fun e w' => e = .returned (textsA (.slice none 0 0) (resE s.data.toList n)) ∧ Below w.heap.size w w' := by
  obtain ⟨q, eq⟩ : ∃ q, flashE s.data.toList 100 = q := ⟨_, rfl⟩
  by_cases h0 : q = 0
  · have hf : faultsE n ≠ 0 := by unfold resE orI at hE; rw [eq, if_pos h0] at hE; exact hE
    have hf1 : faultsE n = 1 := by
      unfold faultsE at hf ⊢
      by_cases h : n < 0 ∨ 2 < n
      · rw [if_pos h]
      · rw [if_neg h] at hf; exact absurd rfl hf
    have HR : Hid (resE s.data.toList n = 1) := Lib.hid (by unfold resE orI; rw [eq, if_pos h0, hf1])
    have HF : Hid (decide (faultsE n = 0) = false) := Lib.hid (decide_eq_false hf)
    have HQ := Lib.hid (eq.trans h0)
    clear hE hf hf1 eq h0
    go_enter Tryz.func9, Tryz.ntmps9
    go_wp2_with fail
    refine (rflashes_any _ _ _ hs).mono ?_
    rintro e w' ⟨rfl, rfl⟩
    rw [HQ.out]
    go_wp2_with fail
    refine (rfew_any _ _).mono ?_
    rintro e w' ⟨rfl, rfl⟩
    rw [HF.out]
    go_wp2_with fail
    rw [HR.out]
    refine bodyPost_ret (v := textsA (.slice none 0 0) 1) ?_ rfl ⟨rfl, ?_⟩
    · simp [results, Tryz.results9, go_sem, textsA]
    · exact (Below.refl _ w).alloc (Nat.le_refl _) _
  · have HR : Hid (resE s.data.toList n = q) := Lib.hid (by unfold resE orI; rw [eq, if_neg h0])
    have hne : (q != 0) = true := by simpa using h0
    have HQ := Lib.hid eq
    clear hE eq h0
    go_enter Tryz.func9, Tryz.ntmps9
    go_wp2_with fail
    refine (rflashes_any _ _ _ hs).mono ?_
    rintro e w' ⟨rfl, rfl⟩
    rw [HQ.out]
    go_wp2_with fail
    rw [HR.out]
    refine bodyPost_ret (v := textsA (.slice none 0 0) q) ?_ rfl ⟨rfl, ?_⟩
    · simp [results, Tryz.results9, go_sem, textsA]
    · exact (Below.refl _ w).alloc (Nat.le_refl _) _


set_option maxRecDepth 100000 in
theorem Readings_err (s : ByteArray) (n : Int) (w : World) (hs : s.size ≤ maxLen) (hE : resE s.data.toList n ≠ 0) :
    Calls Tryz.prog 8 #[.string s, .int .i64 n] w fun e w' => e = .returned (.tuple #[.slice none 0 0, .int .i64 (resE s.data.toList n)]) ∧ Below w.heap.size w w' := by
  obtain ⟨q, eq⟩ : ∃ q, resE s.data.toList n = q := ⟨_, rfl⟩
  rw [eq] at hE ⊢
  have hne : (q != 0) = true := by simpa using hE
  have HQ : Hid (orI (flashE s.data.toList 100) (faultsE n) = q) := Lib.hid eq
  clear hE eq
  go_enter Tryz.func8, Tryz.ntmps8
  go_wp2_with fail
  refine (checkFlashes_any _ _ _ hs).mono ?_
  rintro e w' ⟨rfl, rfl⟩
  go_wp2_with fail
  refine (checkFaults_any _ _).mono ?_
  rintro e w' ⟨rfl, rfl⟩
  go_wp2_with fail
  refine (or_two _ _ _ _ (cell_two0 _ _ _ _) (cell_two1 _ _ _ _)).mono ?_
  rintro e w'' ⟨rfl, rfl⟩
  rw [HQ.out]
  go_wp2_with fail
  go_ret2
  exact ⟨ret_val rfl, (Below.refl _ _).alloc (Nat.le_refl _) _⟩

end Go.Proofs.YtjbdmlpadoiicaaGreatDoor

/-! Sure of both, from what Readings answers. -/
namespace Go.Proofs.YtjbdmlpadoiicaaGreatDoor
open Go.RowKit Go.Shelf

/-- The only word with the fewest faults. -/
def sureL : List (List UInt8 × Int) → List UInt8 × Int
  | [] => ([], 5)
  | [p] => (p.1, 0)
  | p :: q :: _ => if q.2 = p.2 then ([], 9) else (p.1, 0)
def sureV (L : List (List UInt8 × Int)) : Value := .tuple #[.string (B (sureL L).1), .int .i64 (sureL L).2]

theorem sureV_clash {p q : List UInt8 × Int} {t : List (List UInt8 × Int)} (h : q.2 = p.2) : sureV (p :: q :: t) = .tuple #[.string ⟨#[]⟩, .int .i64 9] := by
  have e : sureL (p :: q :: t) = ([], 9) := if_pos h
  unfold sureV; rw [e]; rfl
theorem sureV_first {p q : List UInt8 × Int} {t : List (List UInt8 × Int)} (h : ¬ q.2 = p.2) : sureV (p :: q :: t) = .tuple #[.string (B p.1), .int .i64 0] := by
  have e : sureL (p :: q :: t) = (p.1, 0) := if_neg h
  unfold sureV; rw [e]

set_option maxRecDepth 100000 in
set_option maxHeartbeats 1000000 in
theorem Sure_of (s : ByteArray) (n : Int) (w : World) (L : List (List UInt8 × Int)) (hl : L.length ≤ 1000000)
    (hR : Calls Tryz.prog 8 #[.string s, .int .i64 n] w fun e w' => ∃ v, e = .returned (.tuple #[v, .int .i64 0]) ∧ PRow w' v L ∧ Below w.heap.size w w') :
    Calls Tryz.prog 10 #[.string s, .int .i64 n] w fun e w' => e = .returned (sureV L) ∧ Below w.heap.size w w' := by
  have HR := Lib.hid hR
  clear hR
  match L with
  | [] =>
    have HX : Hid (sureV [] = .tuple #[.string ⟨#[]⟩, .int .i64 5]) := Lib.hid rfl
    go_enter Tryz.func10, Tryz.ntmps10
    go_wp2_with fail
    refine HR.out.mono ?_
    rintro e w1 ⟨v, rfl, hP, hb⟩
    obtain ⟨a, c, rfl⟩ : ∃ a c, v = .slice a 0 c := by
      rcases hP with h | ⟨b, cap, h, h1, h2, _⟩
      · exact ⟨_, _, h.1⟩
      · exact ⟨_, _, h⟩
    clear hP
    go_wp2_with fail
    go_ret2
    exact ⟨ret_val (by rw [HX.out]; rfl), hb⟩
  | [p] =>
    have HX : Hid (sureV [p] = .tuple #[.string (B p.1), .int .i64 0]) := Lib.hid rfl
    go_enter Tryz.func10, Tryz.ntmps10
    go_wp2_with fail
    refine HR.out.mono ?_
    rintro e w1 ⟨v, rfl, hP, hb⟩
    obtain ⟨b, cap, rfl, h1, h2, h3⟩ : ∃ b cap, v = .slice (some ⟨b, 0, none⟩) 1 cap ∧ 1 ≤ cap ∧ b < w1.heap.size ∧ w1.cell? ⟨b, 0, none⟩ = some (.string (B p.1)) := by
      rcases hP with h | ⟨b, cap, h, h1, h2, h3⟩
      · cases h.2
      · exact ⟨b, cap, h, h1, h2, (h3 0 (by simp)).1⟩
    clear hP
    go_wp2_with fail
    go_quiet (fail)
    go_wp2_with fail
    go_ret2
    exact ⟨ret_val (by rw [HX.out]; rfl), hb.trans (below_drewN (Below.refl _ _) _ |>.mono hb.size)⟩
  | p :: q :: t =>
    by_cases hq : q.2 = p.2
    · have HX : Hid (sureV (p :: q :: t) = .tuple #[.string ⟨#[]⟩, .int .i64 9]) := Lib.hid (sureV_clash hq)
      go_enter Tryz.func10, Tryz.ntmps10
      go_wp2_with fail
      refine HR.out.mono ?_
      rintro e w1 ⟨v, rfl, hP, hb⟩
      obtain ⟨b, cap, rfl, h1, h2, h3, h4, h5⟩ : ∃ b cap, v = .slice (some ⟨b, 0, none⟩) (t.length + 2) cap ∧ t.length + 2 ≤ cap ∧ b < w1.heap.size ∧ w1.cell? ⟨b, 0, none⟩ = some (.string (B p.1)) ∧ w1.cell? ⟨b, 1, none⟩ = some (.int .i64 p.2) ∧ w1.cell? ⟨b, 3, none⟩ = some (.int .i64 q.2) := by
        rcases hP with h | ⟨b, cap, h, h1, h2, h3⟩
        · cases h.2
        · exact ⟨b, cap, h, h1, h2, (h3 0 (by simp)).1, (h3 0 (by simp)).2, (h3 1 (by simp)).2⟩
      have hz : ((t.length : Int) + 2 == 0) = false := by simp; omega
      have hz1 : (1 : Int) < (t.length : Int) + 2 := by omega
      have hqq : (q.2 == p.2) = true := by simpa using hq
      have hlt : t.length ≤ 1000000 := by simp at hl; omega
      clear hP hq hl
      go_wp2_with fail
      go_quiet (fail)
      go_wp2_with fail
      go_ret2
      exact ⟨ret_val (by rw [HX.out]; rfl), hb.trans (below_drewN (Below.refl _ _) _ |>.mono hb.size)⟩
    · have HX : Hid (sureV (p :: q :: t) = .tuple #[.string (B p.1), .int .i64 0]) := Lib.hid (sureV_first hq)
      go_enter Tryz.func10, Tryz.ntmps10
      go_wp2_with fail
      refine HR.out.mono ?_
      rintro e w1 ⟨v, rfl, hP, hb⟩
      obtain ⟨b, cap, rfl, h1, h2, h3, h4, h5⟩ : ∃ b cap, v = .slice (some ⟨b, 0, none⟩) (t.length + 2) cap ∧ t.length + 2 ≤ cap ∧ b < w1.heap.size ∧ w1.cell? ⟨b, 0, none⟩ = some (.string (B p.1)) ∧ w1.cell? ⟨b, 1, none⟩ = some (.int .i64 p.2) ∧ w1.cell? ⟨b, 3, none⟩ = some (.int .i64 q.2) := by
        rcases hP with h | ⟨b, cap, h, h1, h2, h3⟩
        · cases h.2
        · exact ⟨b, cap, h, h1, h2, (h3 0 (by simp)).1, (h3 0 (by simp)).2, (h3 1 (by simp)).2⟩
      have hz : ((t.length : Int) + 2 == 0) = false := by simp; omega
      have hz1 : (1 : Int) < (t.length : Int) + 2 := by omega
      have hqq : (q.2 == p.2) = false := by simpa using hq
      have hlt : t.length ≤ 1000000 := by simp at hl; omega
      clear hP hq hl
      go_wp2_with fail
      go_quiet (fail)
      go_wp2_with fail
      go_ret2
      exact ⟨ret_val (by rw [HX.out]; rfl), hb.trans (below_drewN (Below.refl _ _) _ |>.mono hb.size)⟩
end Go.Proofs.YtjbdmlpadoiicaaGreatDoor

/-! Sure of the reference, from what Readings answers. -/
namespace Go.Proofs.YtjbdmlpadoiicaaGreatDoor
open Go.RowKit Go.Shelf

set_option maxRecDepth 100000 in
set_option maxHeartbeats 1000000 in
theorem rSure_of (s : ByteArray) (n : Int) (w : World) (L : List (List UInt8 × Int)) (hl : L.length ≤ 1000000)
    (hR : Calls Tryz.prog 9 #[.string s, .int .i64 n] w fun e w' => ∃ v, e = .returned (.agg #[v, .int .i64 0]) ∧ PRow w' v L ∧ Below w.heap.size w w') :
    Calls Tryz.prog 11 #[.string s, .int .i64 n] w fun e w' => e = .returned (sureV L) ∧ Below w.heap.size w w' := by
  have HR := Lib.hid hR
  clear hR
  match L with
  | [] =>
    have HX : Hid (sureV [] = .tuple #[.string ⟨#[]⟩, .int .i64 5]) := Lib.hid rfl
    go_enter Tryz.func11, Tryz.ntmps11
    go_wp2_with fail
    refine HR.out.mono ?_
    rintro e w1 ⟨v, rfl, hP, hb⟩
    obtain ⟨a, c, rfl⟩ : ∃ a c, v = .slice a 0 c := by
      rcases hP with h | ⟨b, cap, h, h1, h2, _⟩
      · exact ⟨_, _, h.1⟩
      · exact ⟨_, _, h⟩
    clear hP
    go_wp2_with fail
    go_ret2
    exact ⟨ret_val (by rw [HX.out]; rfl), hb.alloc hb.size _⟩
  | [p] =>
    have HX : Hid (sureV [p] = .tuple #[.string (B p.1), .int .i64 0]) := Lib.hid rfl
    go_enter Tryz.func11, Tryz.ntmps11
    go_wp2_with fail
    refine HR.out.mono ?_
    rintro e w1 ⟨v, rfl, hP, hb⟩
    obtain ⟨b, cap, rfl, h1, h2, h3⟩ : ∃ b cap, v = .slice (some ⟨b, 0, none⟩) 1 cap ∧ 1 ≤ cap ∧ b < w1.heap.size ∧ w1.cell? ⟨b, 0, none⟩ = some (.string (B p.1)) := by
      rcases hP with h | ⟨b, cap, h, h1, h2, h3⟩
      · cases h.2
      · exact ⟨b, cap, h, h1, h2, (h3 0 (by simp)).1⟩
    clear hP
    go_wp2_with fail
    go_quiet (fail)
    go_wp2_with fail
    go_ret2
    exact ⟨ret_val (by rw [HX.out]; rfl), below_drewN (hb.alloc hb.size _) _⟩
  | p :: q :: t =>
    by_cases hq : q.2 = p.2
    · have HX : Hid (sureV (p :: q :: t) = .tuple #[.string ⟨#[]⟩, .int .i64 9]) := Lib.hid (sureV_clash hq)
      go_enter Tryz.func11, Tryz.ntmps11
      go_wp2_with fail
      refine HR.out.mono ?_
      rintro e w1 ⟨v, rfl, hP, hb⟩
      obtain ⟨b, cap, rfl, h1, h2, h3, h4, h5⟩ : ∃ b cap, v = .slice (some ⟨b, 0, none⟩) (t.length + 2) cap ∧ t.length + 2 ≤ cap ∧ b < w1.heap.size ∧ w1.cell? ⟨b, 0, none⟩ = some (.string (B p.1)) ∧ w1.cell? ⟨b, 1, none⟩ = some (.int .i64 p.2) ∧ w1.cell? ⟨b, 3, none⟩ = some (.int .i64 q.2) := by
        rcases hP with h | ⟨b, cap, h, h1, h2, h3⟩
        · cases h.2
        · exact ⟨b, cap, h, h1, h2, (h3 0 (by simp)).1, (h3 0 (by simp)).2, (h3 1 (by simp)).2⟩
      have hz : ((t.length : Int) + 2 == 0) = false := by simp; omega
      have hz1 : (1 : Int) < (t.length : Int) + 2 := by omega
      have hqq : (q.2 == p.2) = true := by simpa using hq
      have hlt : t.length ≤ 1000000 := by simp at hl; omega
      clear hP hq hl
      go_wp2_with fail
      go_quiet (fail)
      go_wp2_with fail
      go_ret2
      exact ⟨ret_val (by rw [HX.out]; rfl), below_drewN (hb.alloc hb.size _) _⟩
    · have HX : Hid (sureV (p :: q :: t) = .tuple #[.string (B p.1), .int .i64 0]) := Lib.hid (sureV_first hq)
      go_enter Tryz.func11, Tryz.ntmps11
      go_wp2_with fail
      refine HR.out.mono ?_
      rintro e w1 ⟨v, rfl, hP, hb⟩
      obtain ⟨b, cap, rfl, h1, h2, h3, h4, h5⟩ : ∃ b cap, v = .slice (some ⟨b, 0, none⟩) (t.length + 2) cap ∧ t.length + 2 ≤ cap ∧ b < w1.heap.size ∧ w1.cell? ⟨b, 0, none⟩ = some (.string (B p.1)) ∧ w1.cell? ⟨b, 1, none⟩ = some (.int .i64 p.2) ∧ w1.cell? ⟨b, 3, none⟩ = some (.int .i64 q.2) := by
        rcases hP with h | ⟨b, cap, h, h1, h2, h3⟩
        · cases h.2
        · exact ⟨b, cap, h, h1, h2, (h3 0 (by simp)).1, (h3 0 (by simp)).2, (h3 1 (by simp)).2⟩
      have hz : ((t.length : Int) + 2 == 0) = false := by simp; omega
      have hz1 : (1 : Int) < (t.length : Int) + 2 := by omega
      have hqq : (q.2 == p.2) = false := by simpa using hq
      have hlt : t.length ≤ 1000000 := by simp at hl; omega
      clear hP hq hl
      go_wp2_with fail
      go_quiet (fail)
      go_wp2_with fail
      go_ret2
      exact ⟨ret_val (by rw [HX.out]; rfl), below_drewN (hb.alloc hb.size _) _⟩

theorem Sure_bad (s : ByteArray) (n q : Int) (w : World) (hq : q ≠ 0)
    (hR : Calls Tryz.prog 8 #[.string s, .int .i64 n] w fun e w' => e = .returned (.tuple #[.slice none 0 0, .int .i64 q]) ∧ Below w.heap.size w w') :
    Calls Tryz.prog 10 #[.string s, .int .i64 n] w fun e w' => e = .returned (.tuple #[.string ⟨#[]⟩, .int .i64 q]) ∧ Below w.heap.size w w' := by
  have HR := Lib.hid hR
  have hne : (q != 0) = true := by simpa using hq
  clear hR hq
  go_enter Tryz.func10, Tryz.ntmps10
  go_wp2_with fail
  refine HR.out.mono ?_
  rintro e w1 ⟨rfl, hb⟩
  go_wp2_with fail
  go_ret2
  exact ⟨ret_val rfl, hb⟩
set_option maxRecDepth 100000 in
theorem rSure_bad (s : ByteArray) (n q : Int) (w : World) (hq : q ≠ 0)
    (hR : Calls Tryz.prog 9 #[.string s, .int .i64 n] w fun e w' => e = .returned (.agg #[.slice none 0 0, .int .i64 q]) ∧ Below w.heap.size w w') :
    Calls Tryz.prog 11 #[.string s, .int .i64 n] w fun e w' => e = .returned (.tuple #[.string ⟨#[]⟩, .int .i64 q]) ∧ Below w.heap.size w w' := by
  have HR := Lib.hid hR
  have hne : (q != 0) = true := by simpa using hq
  clear hR hq
  go_enter Tryz.func11, Tryz.ntmps11
  go_wp2_with fail
  refine HR.out.mono ?_
  rintro e w1 ⟨rfl, hb⟩
  go_wp2_with fail
  go_quiet (fail)
  go_wp2_with fail
  go_ret2
  exact ⟨ret_val rfl, below_drewN (hb.alloc hb.size _) _⟩
end Go.Proofs.YtjbdmlpadoiicaaGreatDoor
