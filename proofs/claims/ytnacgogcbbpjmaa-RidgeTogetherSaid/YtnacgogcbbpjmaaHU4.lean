/- Spare of package ridge. -/
import Derived.Test.YtnacgogcbbpjmaaHU3
set_option linter.unusedVariables false
set_option linter.unusedSimpArgs false
namespace Go.Proofs.Ytnacgogcbbpjmaa
open Go Go.RowKit

def ctB (f : Nat → Nat) (x n : Nat) : Bool := (List.range n).any fun i => f i == x
/-- A tower can be spared if the others see all places that it sees. -/
def spB (g : List Int) (wd : Int) (T : List Tw) (rise far : Int) (n : Nat) (t : Tw) : Bool := (List.range n).all fun k => !seB g wd t (plI wd k) rise far || T.any fun u => u.id != t.id && seB g wd u (plI wd k) rise far
def spL (g : List Int) (wd : Int) (T : List Tw) (rise far : Int) (n : Nat) (L : List Tw) : List Int := (L.filter (spB g wd T rise far n)).map Tw.id
theorem mTo_pow {f : Nat → Bool} {N i : Nat} (hi : i < N) : mTo f N = 2 ^ i ↔ f i = true ∧ ∀ j, j < N → j ≠ i → f j = false := by
  constructor
  · intro h
    have hb : ∀ j, (mTo f N).testBit j = (2 ^ i).testBit j := fun j => by rw [h]
    simp only [mTo_bit, Nat.testBit_two_pow] at hb
    refine ⟨?_, fun j hj hne => ?_⟩
    · have := hb i; simpa [hi] using this
    · have := hb j
      have hne' : ¬ i = j := fun e => hne e.symm
      simpa [hj, hne'] using this
  · rintro ⟨h1, h2⟩
    apply Nat.eq_of_testBit_eq
    intro j
    rw [mTo_bit, Nat.testBit_two_pow]
    by_cases e : i = j
    · subst e; simp [hi, h1]
    · by_cases hj : j < N
      · simp [e, hj, h2 j hj (fun h => e h.symm)]
      · simp [e, hj]
theorem sp_is {g : List Int} {wd : Int} {T L : List Tw} {rise far : Int} {n : Nat} (hL : Ord L T) (hk : (T.map Tw.id).Nodup) {i : Nat} (hi : i < L.length) : (!ctB (wmN g wd L rise far) (2 ^ i) n) = spB g wd T rise far n (L.getD i .nil) := by
  rw [Bool.eq_iff_iff]
  unfold ctB spB
  simp only [Bool.not_eq_true', List.any_eq_false, List.all_eq_true, List.mem_range, beq_iff_eq, Bool.or_eq_true, List.any_eq_true, Bool.and_eq_true, bne_iff_ne]
  unfold wmN
  have hti : L.getD i .nil ∈ T := by rw [getD_tw hi]; exact hL.1.mem_iff.1 (List.getElem_mem _)
  constructor
  · intro h k hkn
    by_cases hs : seB g wd (L.getD i .nil) (plI wd k) rise far = true
    · right
      have h1 := h k hkn
      rw [mTo_pow hi] at h1
      have h2 : ∃ j, j < L.length ∧ j ≠ i ∧ seI g wd L (plI wd k) rise far j = true := by
        by_cases q : ∃ j, j < L.length ∧ j ≠ i ∧ seI g wd L (plI wd k) rise far j = true
        · exact q
        · refine absurd ⟨hs, fun j hj hne => ?_⟩ h1
          cases hb : seI g wd L (plI wd k) rise far j
          · rfl
          · exact absurd ⟨j, hj, hne, hb⟩ q
      obtain ⟨j, hj, hne, hb⟩ := h2
      refine ⟨L.getD j .nil, by rw [getD_tw hj]; exact hL.1.mem_iff.1 (List.getElem_mem _), fun e => ?_, hb⟩
      rcases Nat.lt_or_gt_of_ne hne with h3 | h3
      · have := ord_mono hL j i h3 hi; omega
      · have := ord_mono hL i j h3 hj; omega
    · left; simpa using hs
  · intro h k hkn h1
    rw [mTo_pow hi] at h1
    rcases h k hkn with h2 | ⟨u, hu, hne, hs⟩
    · have h3 : seB g wd (L.getD i .nil) (plI wd k) rise far = true := h1.1
      rw [h3] at h2; cases h2
    · obtain ⟨j, hj, rfl⟩ := List.getElem_of_mem (hL.1.mem_iff.2 hu)
      have hji : j ≠ i := by
        rintro rfl
        exact hne (by rw [getD_tw hj])
      have h3 := h1.2 j hj hji
      unfold seI at h3
      rw [getD_tw hj, hs] at h3
      cases h3
set_option maxRecDepth 100000 in
set_option maxHeartbeats 8000000 in
theorem Fewest_bad (wd hg : Int) (o tv hv : Value) (g : List Int) (T : List Tw) (H : List Hz) (rise tick : Int) (w : World) (ho : INRow w o g) (hl : g.length ≤ 9223372036854775807) (ht : TwRow w tv T) (htl : T.length ≤ 9223372036854775807) (hh : HzRow w hv H) (hhl : H.length ≤ 9223372036854775807) (hcv : cvE wd hg g T H rise tick ≠ 0) :
    Calls Try.prog 13 #[coV wd hg o tv hv, .int .i64 rise, .int .i64 tick] w fun e w' => e = .returned (.tuple #[.slice none 0 0, .int .i64 (cvE wd hg g T H rise tick)]) ∧ Below w.heap.size w w' := by
  have HCV := Lib.hid (fun w' (h : Below w.heap.size w w') => checkView_any wd hg o tv hv g T H rise tick w' (ho.keep h) hl (ht.keep h) htl (hh.keep h) hhl)
  obtain ⟨E, hE⟩ : ∃ x, cvE wd hg g T H rise tick = x := ⟨_, rfl⟩
  rw [hE] at HCV hcv ⊢
  have qe : (E != 0) = true := by simpa using hcv
  have HA : Hid (∀ W', Below (((w.alloc (.cells #[.int .i64 wd, .int .i64 hg, o, tv, hv] 28)).alloc (.cells #[.slice none 0 0] 22)).alloc (.cells #[.int .i64 0] 33)).heap.size (((w.alloc (.cells #[.int .i64 wd, .int .i64 hg, o, tv, hv] 28)).alloc (.cells #[.slice none 0 0] 22)).alloc (.cells #[.int .i64 0] 33)) W' → W'.cell? ⟨w.heap.size, 0, none⟩ = some (.int .i64 wd) ∧ W'.cell? ⟨w.heap.size, 1, none⟩ = some (.int .i64 hg) ∧ W'.cell? ⟨w.heap.size, 2, none⟩ = some o ∧ W'.cell? ⟨w.heap.size, 3, none⟩ = some tv ∧ W'.cell? ⟨w.heap.size, 4, none⟩ = some hv ∧ W'.heap[w.heap.size + 1]? = some (Obj.cells #[.slice none 0 0] 22 (0, 0)) ∧ W'.heap[w.heap.size + 1 + 1]? = some (Obj.cells #[.int .i64 0] 33 (0, 0)) ∧ Below w.heap.size w W') := Lib.hid (fun W' h => by
    obtain ⟨a, b, c, _, d⟩ := three_cells w _ _ _ _ _ _ h
    exact ⟨cellH a 0, cellH a 1, cellH a 2, cellH a 3, cellH a 4, b, c, d⟩)
  obtain ⟨W1, hW1⟩ : ∃ X, ((w.alloc (.cells #[.int .i64 wd, .int .i64 hg, o, tv, hv] 28)).alloc (.cells #[.slice none 0 0] 22)).alloc (.cells #[.int .i64 0] 33) = X := ⟨_, rfl⟩
  rw [hW1] at HA
  have HW1 := Lib.hid hW1
  have HRD := HA
  have HB0 := Lib.hid (HA.out W1 (Below.refl _ _)).2.2.2.2.2.2.2
  clear hW1 HA ho ht hh hl htl hhl hcv hE
  unfold coV at HCV
  unfold coV
  refine callsIn_wide.1 (?_ : CallsIn Fence.wide 7 _ _ _ _ _)
  refine callsIn_of_wp_marks Try.func13 rfl trivial ?_ rfl
  simp only [Try.ntmps13, List.size_toArray, List.length_cons, List.length_nil, Nat.reduceAdd, Nat.reduceSub, Array.replicate_succ, Array.replicate_zero, List.push_toArray, List.append_toArray, List.nil_append, List.cons_append]
  refine wpIn_wide.2 ?_
  go_wp2_with fail
  rw [HW1.out]
  obtain ⟨q0, q1, q2, q3, q4, _, _, _⟩ := HRD.out W1 (Below.refl _ _)
  go_wp2_with fail
  refine (HCV.out _ HB0.out).mono ?_
  rintro e w2 ⟨rfl, hb2⟩
  obtain ⟨_, _, _, _, _, hr1, hr2, hbw⟩ := HRD.out w2 hb2
  have HFIN : Hid (Below w.heap.size w ((w2.setCell ⟨w.heap.size + 1, 0, none⟩ (.slice none 0 0)).setCell ⟨w.heap.size + 1 + 1, 0, none⟩ (.int .i64 E)) ∧ ((w2.setCell ⟨w.heap.size + 1, 0, none⟩ (.slice none 0 0)).setCell ⟨w.heap.size + 1 + 1, 0, none⟩ (.int .i64 E)).heap[w.heap.size + 1]? = some (Obj.cells #[.slice none 0 0] 22 (0, 0)) ∧ ((w2.setCell ⟨w.heap.size + 1, 0, none⟩ (.slice none 0 0)).setCell ⟨w.heap.size + 1 + 1, 0, none⟩ (.int .i64 E)).heap[w.heap.size + 1 + 1]? = some (Obj.cells #[.int .i64 E] 33 (0, 0))) := Lib.hid
    ⟨(hbw.setCell (p := ⟨w.heap.size + 1, 0, none⟩) (by simp) _).setCell (p := ⟨w.heap.size + 1 + 1, 0, none⟩) (by simp; omega) _, (heap_other _ _ _ _ _ (by omega)).trans (heap_same hr1 0 _), heap_same ((heap_other _ _ _ _ _ (by omega)).trans hr2) 0 _⟩
  have x0 := cellH hr1 0
  have y0 := cellH hr2 0
  have xf := freeH hr1 0
  have yf := freeH hr2 0
  simp at x0 y0
  have hne : w.heap.size + 1 + 1 ≠ w.heap.size + 1 := by omega
  clear hb2 hr1 hr2 hbw q0 q1 q2 q3 q4
  go_wp2_with fail
  try rw [Exit.noGoto_ret]
  exact leaves_marks5 (F := Fence.wide) (n := 7) w.heap.size [] _ (by simp) (fun D' hD' => by simp at hD') (fun W' hk hb' => ⟨_, fw_results rfl rfl (cellH (hk.2 _ _ _ _ HFIN.out.2.1) 0) (cellH (hk.2 _ _ _ _ HFIN.out.2.2) 0), rfl, HFIN.out.1.trans hb'⟩)
end Go.Proofs.Ytnacgogcbbpjmaa
