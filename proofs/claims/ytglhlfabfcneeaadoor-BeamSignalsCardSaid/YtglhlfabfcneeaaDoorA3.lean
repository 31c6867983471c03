/- Contracts of Pack and Unpack of package beam. -/
import Derived.Test.YtglhlfabfcneeaaDoorA2
import Derived.Test.YtglhlfabfcneeaaDoorT0
import Derived.Deep.RegionHeld3
import Derived.Deep.RegionWith
namespace Go.Proofs.YtglhlfabfcneeaaDoor
open Go.RowKit Go.Shelf

theorem sign_quiet (v : Int) (w : World) (h0 : 0 ≤ v) (h1 : v ≤ 1000000) :
    Calls Tryd.prog 47 #[.int .i64 v] w fun e w' => e = .returned (.string (B (signL v))) ∧ w' = w :=
  (sign_any v w h0 h1).mono fun _ _ ⟨a, b⟩ => ⟨a, b.symm⟩

def packV (k n : Int) (t : List UInt8) : Value :=
  if validB k n t then .tuple #[.string (B ((if k = 2 then 114 else 109) :: (signL (n / 26 + 1) ++ signL (n % 26 + 1) ++ t))), .int .i64 0]
  else .tuple #[.string ⟨#[]⟩, .int .i64 1]

theorem validB_n {k n : Int} {t : List UInt8} (h : validB k n t = true) : 0 ≤ n ∧ n ≤ 675 ∧ (k = 1 ∨ k = 2) ∧ t.length ≤ 7 := by
  simp only [validB, Bool.and_eq_true, Bool.or_eq_true, decide_eq_true_eq, List.isEmpty_iff] at h
  obtain ⟨⟨h0, h1⟩, ⟨hk, (h | h)⟩ | ⟨hk, h⟩⟩ := h
  · exact ⟨h0, h1, .inl hk, by simp [h]⟩
  · exact ⟨h0, h1, .inl hk, h.2⟩
  · exact ⟨h0, h1, .inr hk, by simp [h]⟩

theorem pack_any (k n : Int) (t : ByteArray) (w : World) (hs : t.size ≤ maxLen) :
    Calls Tryd.prog 41 #[.agg #[.int .i64 k, .int .i64 n, .string t]] w fun e w' => e = .returned (packV k n t.data.toList) ∧ Below w.heap.size w w' := by
  have hB := (Below.refl w.heap.size w).alloc (Nat.le_refl _) (.cells #[.int .i64 k, .int .i64 n, .string t] 65)
  by_cases hv : validB k n t.data.toList = true
  · obtain ⟨hn0, hn1, hk, ht⟩ := validB_n hv
    have ht : t.size ≤ 7 := ht
    have Hv := Lib.hid hv
    clear hv
    have a1 : IntKind.i64.wrap (n.tdiv 26) = n / 26 := by rw [Int.tdiv_eq_ediv_of_nonneg hn0, IntWalk.i64_in _ (by omega)]
    have a2 : IntKind.i64.wrap (n / 26 + 1) = n / 26 + 1 := IntWalk.i64_in _ (by omega)
    have a3 : IntKind.i64.wrap (n.tmod 26 + 1) = n % 26 + 1 := by rw [Int.tmod_eq_emod_of_nonneg hn0, IntWalk.i64_in _ (by omega)]
    have a6 : ¬ 9223372036854775807 < 3 + t.size := by omega
    have A1 := Lib.hid a1; have A2 := Lib.hid a2; have A3 := Lib.hid a3
    clear a1 a2 a3
    rcases hk with rfl | rfl
    all_goals
      go_enter Tryd.func41, Tryd.ntmps41
      go_wp2_with fail
      refine (valid_any _ _ _ _ hs).mono ?_
      rintro e w1 ⟨rfl, hb⟩
      rw [Hv.out]
      have hc0 := (hb.cell (p := ⟨w.heap.size, 0, none⟩) (by simp)).trans (by go_simp; rfl)
      have hc1 : w1.cell? ⟨w.heap.size, 1, none⟩ = some (.int .i64 n) := (hb.cell (p := ⟨w.heap.size, 1, none⟩) (by simp)).trans (by go_simp)
      have hc2 : w1.cell? ⟨w.heap.size, 2, none⟩ = some (.string t) := (hb.cell (p := ⟨w.heap.size, 2, none⟩) (by simp)).trans (by go_simp)
      go_wp2_with fail
      have a1 := A1.out; have a2 := A2.out; have a3 := A3.out
      have a4 : 0 ≤ n / 26 + 1 := by omega
      have a5 : 0 ≤ n % 26 + 1 := by omega
      go_quiet ((go_at_call 47; exact Calls.quiet_of_same (sign_quiet _ _ (by omega) (by omega))))
      go_wp2
      go_ret2
      exact ⟨ret_val (by simp only [packV, Hv.out, if_true]; refine congrArg (fun x => Value.tuple #[.string x, .int .i64 0]) (ext_L ?_); simp [ByteArray.data_append]), below_drewN (hB.trans (hb.mono (by simp))) _⟩
  · have Hv : Hid (validB k n t.data.toList = false) := Lib.hid (by simpa using hv)
    clear hv
    go_enter Tryd.func41, Tryd.ntmps41
    go_wp2_with fail
    refine (valid_any _ _ _ _ hs).mono ?_
    rintro e w1 ⟨rfl, hb⟩
    rw [Hv.out]
    go_wp2
    go_ret2
    exact ⟨ret_val (by simp [packV, Hv.out]), hB.trans (hb.mono (by simp))⟩

/-- What a word is as a telegram. -/
def unK (c : UInt8) : Int := if (c.toNat : Int) = 109 then 1 else if (c.toNat : Int) = 114 then 2 else 0
def unN (s : List UInt8) : Int := (valI (s.getD 1 0) - 1) * 26 + valI (s.getD 2 0) - 1
def unB (s : List UInt8) : Bool := wordB s && decide (3 ≤ s.length) && validB (unK (s.getD 0 0)) (unN s) (s.drop 3)
def unpackV (s : List UInt8) : Value :=
  if unB s then .tuple #[.agg #[.int .i64 (unK (s.getD 0 0)), .int .i64 (unN s), .string (B (s.drop 3))], .int .i64 0]
  else .tuple #[.agg #[.int .i64 0, .int .i64 0, .string ⟨#[]⟩], .int .i64 7]

set_option maxRecDepth 100000 in
set_option maxHeartbeats 1000000 in
theorem unpack_any (s : ByteArray) (w : World) (hs : s.size ≤ maxLen) :
    Calls Tryd.prog 43 #[.string s] w fun e w' => e = .returned (unpackV s.data.toList) ∧ Below w.heap.size w w' := by
  by_cases hw : wordB s.data.toList = true
  · by_cases h3 : s.size < 3
    · have hu : unB s.data.toList = false := by
        have := size_toList s
        simp only [unB, hw, Bool.true_and]; rw [decide_eq_false (by omega)]; rfl
      have Hu := Lib.hid hu
      have Hw := Lib.hid hw
      clear hu hw
      go_enter Tryd.func43, Tryd.ntmps43
      go_wp2_with fail
      refine (word_any _ _ hs).mono ?_
      rintro e w1 ⟨rfl, rfl⟩
      rw [Hw.out]
      go_wp2
      refine bodyPost_ret (v := unpackV s.data.toList) ?_ rfl ⟨rfl, ?_⟩
      · simp only [unpackV, Hu.out]
        simp [results, Tryd.results43, go_sem]
      · exact (Below.refl _ w).alloc (Nat.le_refl _) _
    · obtain ⟨h1, h2, h3'⟩ := word_parts hw
      have h2' : s.size ≤ 10 := h2
      have b1 := valI_let_bd _ (getD_all h3' (i := 1) (by have := size_toList s; omega))
      have b2 := valI_let_bd _ (getD_all h3' (i := 2) (by have := size_toList s; omega))
      obtain ⟨v1, e1⟩ : ∃ v1, valI (s.data.toList.getD 1 0) = v1 := ⟨_, rfl⟩
      obtain ⟨v2, e2⟩ : ∃ v2, valI (s.data.toList.getD 2 0) = v2 := ⟨_, rfl⟩
      rw [e1] at b1
      rw [e2] at b2
      obtain ⟨b1, b1'⟩ := b1
      obtain ⟨b2, b2'⟩ := b2
      have C1 : Hid (∀ w, Calls Tryd.prog 19 #[.int .u8 (s[1]'(by omega)).toNat] w fun e w' => e = .returned (.int .i64 v1) ∧ w' = w) := Lib.hid fun w =>
        (value_any _ w).mono fun e w' ⟨a, b⟩ => ⟨by rw [a, ← e1]; exact ret_int (congrArg valI (bat_eq s 1 (by omega))), b.symm⟩
      have C2 : Hid (∀ w, Calls Tryd.prog 19 #[.int .u8 (s[2]'(by omega)).toNat] w fun e w' => e = .returned (.int .i64 v2) ∧ w' = w) := Lib.hid fun w =>
        (value_any _ w).mono fun e w' ⟨a, b⟩ => ⟨by rw [a, ← e2]; exact ret_int (congrArg valI (bat_eq s 2 (by omega))), b.symm⟩
      have Hn : Hid (unN s.data.toList = (v1 - 1) * 26 + v2 - 1) := Lib.hid (by unfold unN; rw [e1, e2])
      have a1 : IntKind.i64.wrap (v1 - 1) = v1 - 1 := IntWalk.i64_in _ (by omega)
      have a2 : IntKind.i64.wrap ((v1 - 1) * 26) = (v1 - 1) * 26 := IntWalk.i64_in _ (by omega)
      have a3 : IntKind.i64.wrap ((v1 - 1) * 26 + v2) = (v1 - 1) * 26 + v2 := IntWalk.i64_in _ (by omega)
      have a4 : IntKind.i64.wrap ((v1 - 1) * 26 + v2 - 1) = (v1 - 1) * 26 + v2 - 1 := IntWalk.i64_in _ (by omega)
      have Hw := Lib.hid hw
      clear hw h3' e1 e2 h1 h2
      have A1 := Lib.hid a1; have A2 := Lib.hid a2; have A3 := Lib.hid a3; have A4 := Lib.hid a4
      clear a1 a2 a3 a4
      go_enter Tryd.func43, Tryd.ntmps43
      go_wp2_with fail
      refine (word_any _ _ hs).mono ?_
      rintro e w1 ⟨rfl, rfl⟩
      rw [Hw.out]
      go_wp2_with fail
      have a1 := A1.out; have a2 := A2.out; have a3 := A3.out; have a4 := A4.out
      have p1 : (1 : Int) < s.size := by omega
      have p2 : (2 : Int) < s.size := by omega
      have p3 : (3 : Int) ≤ s.size := by omega
      refine wp_region_one 14 13 ((w.alloc (.cells #[.int .i64 0, .int .i64 0, .string ⟨#[]⟩] 65)).alloc (.cells #[.int .i64 0, .int .i64 0, .string ⟨#[]⟩] 65)) (by kernel_rfl) (by kernel_rfl) (by decide) ?_
      simp only [List.take_succ_cons, List.take_zero, List.drop_succ_cons, List.drop_zero]
      iterate 2 (apply wpOne_step (by rfl) (by decide); (intro W _ m; go_simp; exact ⟨⟨_, rfl⟩, rfl⟩))
      (apply wpOne_step (by rfl) (by decide); (intro W _ m; go_simp; exact (C1.out _).mono fun e w' ⟨a, b⟩ => ⟨a, _, b⟩))
      iterate 4 (apply wpOne_step (by rfl) (by decide); (intro W _ m; go_simp; exact ⟨⟨_, rfl⟩, rfl⟩))
      (apply wpOne_step (by rfl) (by decide); (intro W _ m; go_simp; exact (C2.out _).mono fun e w' ⟨a, b⟩ => ⟨a, _, b⟩))
      iterate 5 (apply wpOne_step (by rfl) (by decide); (intro W _ m; go_simp; exact ⟨⟨_, rfl⟩, rfl⟩))
      (apply wpOne_turn (by rfl); (intro m; go_simp; exact ⟨⟨_, rfl⟩, rfl⟩))
      intro m
      clear a1 a2 a3 a4
      have hsz : s.size ≤ maxLen := hs
      have hx : (s.extract 3 s.size).size ≤ maxLen := by rw [ByteArray.size_extract]; omega
      have Hx := Lib.hid hx
      have HK1 : Hid ((((s[0]'(by omega)).toNat : Int) == 109) = true → unK (s.data.toList.getD 0 0) = 1) := Lib.hid fun h => by
        rw [show s.data.toList.getD 0 0 = s[0]'(by omega) from (bat_eq s 0 (by omega)).symm]; simp_all [unK]
      have HK2 : Hid ((((s[0]'(by omega)).toNat : Int) == 114) = true → unK (s.data.toList.getD 0 0) = 2) := Lib.hid fun h => by
        rw [show s.data.toList.getD 0 0 = s[0]'(by omega) from (bat_eq s 0 (by omega)).symm]; simp_all [unK]
      have HK3 : Hid ((((s[0]'(by omega)).toNat : Int) == 109) = false → (((s[0]'(by omega)).toNat : Int) == 114) = false → unK (s.data.toList.getD 0 0) = 0) := Lib.hid fun h h' => by
        rw [show s.data.toList.getD 0 0 = s[0]'(by omega) from (bat_eq s 0 (by omega)).symm]; simp_all [unK]
      have HU : Hid (∀ k, unK (s.data.toList.getD 0 0) = k → unB s.data.toList = validB k ((v1 - 1) * 26 + v2 - 1) (s.data.toList.drop 3)) := Lib.hid fun k e => by
        have := size_toList s
        simp only [unB, Hw.out, e, Hn.out, Bool.true_and]; rw [decide_eq_true (by omega)]; rfl
      clear hx
      go_wp2_with fail
      all_goals
        refine (valid_any _ _ _ _ Hx.out).mono ?_
        rintro e w2 ⟨rfl, hb⟩
        rw [extract_tail]
        have HV := Lib.hid (HU.out _ (by first | exact HK1.out (by assumption) | exact HK2.out (by assumption) | exact HK3.out (by assumption) (by assumption)))
        have HE : Hid (unK (s.data.toList.getD 0 0) = _) := Lib.hid (by first | exact HK1.out (by assumption) | exact HK2.out (by assumption) | exact HK3.out (by assumption) (by assumption))
        clear HU HK1 HK2 HK3
        rw [← HV.out]
        obtain ⟨hc, hf⟩ := bcell hb
        have c0 : w2.cell? ⟨w.heap.size, 0, none⟩ = some (.int .i64 0) := (hc _ _ (by simp; omega)).trans (by go_simp)
        have c1 : w2.cell? ⟨w.heap.size, 1, none⟩ = some (.int .i64 0) := (hc _ _ (by simp; omega)).trans (by go_simp)
        have c2 : w2.cell? ⟨w.heap.size, 2, none⟩ = some (.string ⟨#[]⟩) := (hc _ _ (by simp; omega)).trans (by go_simp)
        have d0 := (hc (w.heap.size + 1) 0 (by simp)).trans (by go_simp; rfl)
        have d1 : w2.cell? ⟨w.heap.size + 1, 1, none⟩ = some (.int .i64 ((v1 - 1) * 26 + v2 - 1)) := (hc _ _ (by simp)).trans (by go_simp)
        have d2 : w2.cell? ⟨w.heap.size + 1, 2, none⟩ = some (.string (s.extract 3 s.size)) := (hc _ _ (by simp)).trans (by go_simp)
        have f0 : ∀ o, w2.frozen? ⟨w.heap.size, o, none⟩ = false := fun o => (hf _ _ (by simp; omega)).trans (by go_simp)
        have hbb : Below w.heap.size w w2 := (below_drewN (((Below.refl _ w).alloc (Nat.le_refl _) _).alloc (by simp) _) m).trans (hb.mono (by simp; omega))
        clear hc hf hb
        by_cases hv : unB s.data.toList = true
        · have Hv := Lib.hid hv
          clear hv
          rw [Hv.out]
          go_wp2
          refine bodyPost_ret (v := unpackV s.data.toList) ?_ rfl ⟨rfl, ?_⟩
          · simp only [unpackV, Hv.out, if_true, HE.out, Hn.out, ← extract_tail, B_L]
            simp [results, Tryd.results43, go_sem, c0, c1, c2, d0, d1, d2]
          · exact ((hbb.setCell (p := ⟨w.heap.size, 0, none⟩) (Nat.le_refl _) _).setCell (p := ⟨w.heap.size, 1, none⟩) (Nat.le_refl _) _).setCell (p := ⟨w.heap.size, 2, none⟩) (Nat.le_refl _) _
        · have Hv : Hid (unB s.data.toList = false) := Lib.hid (by simpa using hv)
          clear hv
          rw [Hv.out]
          go_wp2
          refine bodyPost_ret (v := unpackV s.data.toList) ?_ rfl ⟨rfl, ?_⟩
          · simp only [unpackV, Hv.out]
            simp [results, Tryd.results43, go_sem, c0, c1, c2, d0, d1, d2]
          · exact ((hbb.setCell (p := ⟨w.heap.size, 0, none⟩) (Nat.le_refl _) _).setCell (p := ⟨w.heap.size, 1, none⟩) (Nat.le_refl _) _).setCell (p := ⟨w.heap.size, 2, none⟩) (Nat.le_refl _) _
  · have hu : unB s.data.toList = false := by simp [unB, hw]
    have Hu := Lib.hid hu
    have Hw : Hid (wordB s.data.toList = false) := Lib.hid (by simpa using hw)
    clear hu hw
    go_enter Tryd.func43, Tryd.ntmps43
    go_wp2_with fail
    refine (word_any _ _ hs).mono ?_
    rintro e w1 ⟨rfl, rfl⟩
    rw [Hw.out]
    go_wp2
    refine bodyPost_ret (v := unpackV s.data.toList) ?_ rfl ⟨rfl, ?_⟩
    · simp only [unpackV, Hu.out]
      simp [results, Tryd.results43, go_sem]
    · exact (Below.refl _ w).alloc (Nat.le_refl _) _
end Go.Proofs.YtglhlfabfcneeaaDoor
