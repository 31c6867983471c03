/- The reference's towered: where the tower with an ID stands. -/
import Derived.Test.YtnacgogcbbpjmaaHC1
import Derived.Test.YtnacgogcbbpjmaaHE0
set_option linter.unusedVariables false
set_option linter.unusedSimpArgs false
namespace Go.Proofs.Ytnacgogcbbpjmaa
open Go Go.RowKit

theorem co_reads (w : World) (wd hg : Int) (o tv hv : Value) : ∃ W1, W1 = w.alloc (.cells #[.int .i64 wd, .int .i64 hg, o, tv, hv] 28) ∧ Below w.heap.size w W1 ∧ W1.heap.size = w.heap.size + 1 ∧
    ∀ W', Below W1.heap.size W1 W' → W'.cell? ⟨w.heap.size, 0, none⟩ = some (.int .i64 wd) ∧ W'.cell? ⟨w.heap.size, 1, none⟩ = some (.int .i64 hg) ∧ W'.cell? ⟨w.heap.size, 2, none⟩ = some o ∧ W'.cell? ⟨w.heap.size, 3, none⟩ = some tv ∧ W'.cell? ⟨w.heap.size, 4, none⟩ = some hv := by
  refine ⟨_, rfl, (Below.refl _ w).alloc (Nat.le_refl _) _, by simp, fun W' h => ?_⟩
  have m0 := (h.block w.heap.size (by simp)).trans (heap_alloc_new w (.cells #[.int .i64 wd, .int .i64 hg, o, tv, hv] 28))
  exact ⟨cellH m0 0, cellH m0 1, cellH m0 2, cellH m0 3, cellH m0 4⟩
/-- Where the tower with an ID stands. -/
def twI (T : List Tw) (id : Int) : Int := match T.findIdx? (fun t => t.id == id) with
  | some i => i
  | none => -1
theorem getD_tw {T : List Tw} {k : Nat} (h : k < T.length) : T.getD k .nil = T[k] := by
  rw [List.getD_eq_getElem?_getD, List.getElem?_eq_getElem h]; rfl
theorem twI_found {T : List Tw} {id : Int} {k : Nat} (hk : k < T.length) (h : (T.getD k .nil).id = id) (hn : ∀ j, j < k → (T.getD j .nil).id ≠ id) : twI T id = k := by
  have : T.findIdx? (fun t => t.id == id) = some k := by
    rw [List.findIdx?_eq_some_iff_getElem]
    refine ⟨hk, by rw [getD_tw hk] at h; simpa using h, fun j hj => ?_⟩
    have h2 := hn j hj
    rw [getD_tw (by omega)] at h2
    simpa using h2
  unfold twI; rw [this]
theorem twI_none {T : List Tw} {id : Int} (hn : ∀ j, j < T.length → (T.getD j .nil).id ≠ id) : twI T id = -1 := by
  have : T.findIdx? (fun t => t.id == id) = none := by
    rw [List.findIdx?_eq_none_iff]
    intro t ht
    obtain ⟨j, hj, rfl⟩ := List.getElem_of_mem ht
    have h2 := hn j hj
    rw [getD_tw hj] at h2
    simpa using h2
  unfold twI; rw [this]
theorem twI_cases (T : List Tw) (id : Int) : (∃ k : Nat, k < T.length ∧ (T.getD k .nil).id = id ∧ (∀ j, j < k → (T.getD j .nil).id ≠ id) ∧ twI T id = k) ∨ ((∀ j, j < T.length → (T.getD j .nil).id ≠ id) ∧ twI T id = -1) := by
  by_cases h : ∃ k : Nat, k < T.length ∧ (T.getD k .nil).id = id
  · obtain ⟨k, hk⟩ := h
    induction k using Nat.strongRecOn with
    | _ k ih =>
      by_cases h2 : ∃ j, j < k ∧ (T.getD j .nil).id = id
      · obtain ⟨j, hj, hi⟩ := h2
        exact ih j hj ⟨by omega, hi⟩
      · have hn : ∀ j, j < k → (T.getD j .nil).id ≠ id := fun j hj e => h2 ⟨j, hj, e⟩
        exact .inl ⟨k, hk.1, hk.2, hn, twI_found hk.1 hk.2 hn⟩
  · have hn : ∀ j, j < T.length → (T.getD j .nil).id ≠ id := fun j hj e => h ⟨j, hj, e⟩
    exact .inr ⟨hn, twI_none hn⟩
theorem twF_iff {T : List Tw} {id : Int} {i : Nat} (hi : i ≤ T.length) : (twF (T.take i) id).isSome = true ↔ ∃ j, j < i ∧ (T.getD j .nil).id = id := by
  unfold twF
  rw [List.find?_isSome]
  constructor
  · rintro ⟨t, ht, he⟩
    obtain ⟨j, hj, rfl⟩ := List.getElem_of_mem ht
    have hj2 : j < i := by simp at hj; omega
    refine ⟨j, hj2, ?_⟩
    rw [getD_tw (by omega)]
    rw [List.getElem_take] at he
    simpa using he
  · rintro ⟨j, hj, he⟩
    rw [getD_tw (by omega)] at he
    refine ⟨T[j], ?_, by simpa using he⟩
    rw [List.mem_take_iff_getElem]
    exact ⟨j, by omega, rfl⟩
/-- A tower stands behind another one with its ID. -/
theorem twI_lt {T : List Tw} {i : Nat} (hi : i < T.length) : decide (twI T (T.getD i .nil).id < i) = (twF (T.take i) (T.getD i .nil).id).isSome := by
  rw [Bool.eq_iff_iff, decide_eq_true_eq, twF_iff (by omega)]
  rcases twI_cases T (T.getD i .nil).id with ⟨k, h1, h2, h3, h4⟩ | ⟨h1, _⟩
  · rw [h4]
    constructor
    · intro h; exact ⟨k, by omega, h2⟩
    · rintro ⟨j, hj, he⟩
      rcases Nat.lt_or_ge j k with h5 | h5
      · exact absurd he (h3 j h5)
      · omega
  · exact absurd rfl (h1 i hi)
theorem twF_full (T : List Tw) (id : Int) : twF T id = if 0 ≤ twI T id then some (T.getD (twI T id).toNat .nil) else none := by
  rcases twI_cases T id with ⟨k, h1, h2, h3, h4⟩ | ⟨h1, h2⟩
  · rw [h4, if_pos (by omega)]
    unfold twF
    rw [List.find?_eq_some_iff_getElem]
    refine ⟨by simpa using h2, k, h1, ?_, fun j hj => ?_⟩
    · rw [Int.toNat_natCast, getD_tw h1]
    · have h5 := h3 j hj
      rw [getD_tw (by omega)] at h5
      simpa using h5
  · rw [h2, if_neg (by omega)]
    unfold twF
    rw [List.find?_eq_none]
    intro t ht
    obtain ⟨j, hj, rfl⟩ := List.getElem_of_mem ht
    have h5 := h1 j hj
    rw [getD_tw hj] at h5
    simpa using h5
theorem twI_bd {T : List Tw} {id : Int} (h : 0 ≤ twI T id) : (twI T id).toNat < T.length := by
  rcases twI_cases T id with ⟨k, h1, _, _, h4⟩ | ⟨_, h2⟩
  · rw [h4]; exact h1
  · omega
set_option maxRecDepth 100000 in
set_option maxHeartbeats 1000000 in
theorem rtowered_any (wd hg : Int) (o tv hv : Value) (T : List Tw) (id : Int) (w : World) (ht : TwRow w tv T) (htl : T.length ≤ 9223372036854775807) :
    Calls Try.prog 81 #[coV wd hg o tv hv, .int .i64 id] w fun e w' => e = .returned (.int .i64 (twI T id)) ∧ Below w.heap.size w w' := by
  obtain ⟨at0, tcap, rfl, htc⟩ := ht.form
  have HTC := Lib.hid htc
  obtain ⟨W1, hW1, hb0, _, hrd⟩ := co_reads w wd hg o (.slice at0 T.length tcap) hv
  have HW1 := Lib.hid hW1; have HB0 := Lib.hid hb0; have HRD := Lib.hid hrd
  clear hW1 hb0 hrd ht htc
  unfold coV
  go_enter Try.func81, Try.ntmps81
  go_wp2_with fail
  rw [← HW1.out]
  go_loopw [5] (fun i wr => ∃ (k : Nat), k ≤ T.length ∧ i = .int .i64 k ∧ Hid (∀ j, j < k → (T.getD j .nil).id ≠ id) ∧ wr = W1) (fun i _ => T.length - (intOf i).toNat)
  case atStart => exact ⟨0, Nat.zero_le _, rfl, Lib.hid (fun j hj => by omega), rfl⟩
  case round =>
    obtain ⟨k, hk, rfl, hN, rfl⟩ := hrel
    obtain ⟨q0, q1, q2, q3, q4⟩ := HRD.out wr (Below.refl _ _)
    by_cases hkl : k < T.length
    · obtain ⟨b, off, rfl, hb, c0, c1, c2, c3⟩ := HTC.out k hkl
      have hki : (k : Int) < T.length := by omega
      have hk0 : (0 : Int) ≤ k := by omega
      have e0 := (HB0.out.cell (p := ⟨b, _, none⟩) hb).trans c0
      have HX : Hid ((T.getD k .nil).id = (T.getD k .nil).id) := Lib.hid rfl
      obtain ⟨ti, hti⟩ : ∃ x, (T.getD k .nil).id = x := ⟨_, rfl⟩
      rw [hti] at e0
      have HTI := Lib.hid hti
      clear c0 c1 c2 c3 hb hti HX
      by_cases q : ti = id
      · have HR : Hid (twI T id = k) := Lib.hid (twI_found hkl (by rw [HTI.out, q]) hN.out)
        have g0 : (ti == id) = true := by simpa using q
        clear q
        go_wp2_with fail
        go_ret
        exact ⟨ret_int' HR.out.symm, HB0.out⟩
      · have g0 : (ti == id) = false := by simpa using q
        have HN2 : Hid (∀ j, j < k + 1 → (T.getD j .nil).id ≠ id) := Lib.hid (fun j hj => by
          rcases Nat.lt_or_ge j k with h1 | h1
          · exact hN.out j h1
          · obtain rfl : j = k := by omega
            rw [HTI.out]; exact q)
        clear q
        go_wp2_with fail
        go_roundw
        case rel => exact ⟨k + 1, by omega, by go_num, HN2, trivial⟩
        case measure => simp [intOf]; omega
    · obtain rfl : k = T.length := by omega
      have HR : Hid (twI T id = -1) := Lib.hid (twI_none hN.out)
      go_wp2_with fail
      go_ret
      exact ⟨ret_int' HR.out.symm, HB0.out⟩
end Go.Proofs.Ytnacgogcbbpjmaa
