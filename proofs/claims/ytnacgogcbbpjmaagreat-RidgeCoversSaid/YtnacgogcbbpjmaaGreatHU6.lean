/- The reference's Spare and Fewest. -/
import Derived.Test.YtnacgogcbbpjmaaGreatHU4
import Derived.Test.YtnacgogcbbpjmaaGreatHU5
import Derived.Test.YtnacgogcbbpjmaaGreatHV3
set_option linter.unusedVariables false
set_option linter.unusedSimpArgs false
namespace Go.Proofs.YtnacgogcbbpjmaaGreat
open Go Go.RowKit

theorem RwB.below {A B : World} {v : Value} {l : List Int} (h : RwB A v l) (hb : Below A.heap.size A B) : RwB B v l := h.keep fun b C h => (hb.block _ (Array.getElem?_eq_some_iff.1 h).1).trans h
theorem rise_fil {T L : List Tw} {P : Tw → Bool} {out : List Int} (hp : out.Perm ((T.filter P).map Tw.id)) (hs : out.Pairwise (· ≤ ·)) (hL : Ord L T) (hk : (T.map Tw.id).Nodup) : out = (L.filter P).map Tw.id := by
  have hn : out.Nodup := hp.nodup_iff.2 ((List.filter_sublist.map Tw.id).nodup hk)
  rw [List.nodup_iff_pairwise_ne] at hn
  have h1 : out.Pairwise (· < ·) := (hs.and hn).imp fun {s t} h => by have h3 := h.1; have h4 := h.2; omega
  have h2 : ((L.filter P).map Tw.id).Pairwise (· < ·) := by
    rw [List.pairwise_map]
    exact hL.2.sublist List.filter_sublist
  refine pw_ext (R := (· < ·)) (fun x y h => by omega) h1 h2 (fun x => ?_)
  rw [hp.mem_iff]
  exact ((hL.1.filter _).map Tw.id).symm.mem_iff
theorem all_bit {N i : Nat} : (2 ^ N - 1).testBit i = decide (i < N) := Nat.testBit_two_pow_sub_one N i
theorem less_bit {N i j : Nat} (hi : i < N) : (2 ^ N - 1 - 2 ^ i).testBit j = (decide (j < N) && decide (j ≠ i)) := by
  rw [show 2 ^ N - 1 - 2 ^ i = 2 ^ N - (2 ^ i + 1) by omega, Nat.testBit_two_pow_sub_succ (Nat.pow_lt_pow_right (by decide) hi), Nat.testBit_two_pow]
  by_cases e : i = j
  · subst e; simp
  · have e' : ¬ j = i := fun h => e h.symm
    simp [e, e']
theorem tg_any {F : Nat → Nat → Bool} {s N k : Nat} : tgK F s N k = true ↔ ∃ j, j < N ∧ s.testBit j = true ∧ F j k = true := by
  unfold tgK
  simp only [List.any_eq_true, List.mem_range, Bool.and_eq_true]
theorem sm_iff {f g : Nat → Bool} {m : Nat} : smB f g m = true ↔ ∀ j, j < m → f j = g j := by
  unfold smB
  simp only [List.all_eq_true, List.mem_range, beq_iff_eq]
theorem sm_sp {g : List Int} {wd : Int} {T : List Tw} {rise far : Int} {n i : Nat} {F : Nat → Nat → Bool} (hF : ∀ i k, F i k = seB g wd (T.getD i .nil) (plI wd k) rise far) (hk : (T.map Tw.id).Nodup) (hi : i < T.length) :
    smB (tgK F (2 ^ T.length - 1 - 2 ^ i) T.length) (tgK F (2 ^ T.length - 1) T.length) n = spB g wd T rise far n (T.getD i .nil) := by
  rw [Bool.eq_iff_iff, sm_iff]
  unfold spB
  simp only [List.all_eq_true, List.mem_range, Bool.or_eq_true, Bool.not_eq_true', List.any_eq_true, Bool.and_eq_true, bne_iff_ne]
  have hti : T.getD i .nil ∈ T := by rw [getD_tw hi]; exact List.getElem_mem _
  constructor
  · intro h k hkn
    by_cases hs : seB g wd (T.getD i .nil) (plI wd k) rise far = true
    · right
      have h1 : tgK F (2 ^ T.length - 1) T.length k = true := tg_any.2 ⟨i, hi, by rw [all_bit]; simpa using hi, by rw [hF]; exact hs⟩
      rw [← h k hkn] at h1
      obtain ⟨j, hj, hb, hf⟩ := tg_any.1 h1
      rw [less_bit hi] at hb
      have hne : j ≠ i := by simpa [hj] using hb
      refine ⟨T.getD j .nil, by rw [getD_tw hj]; exact List.getElem_mem _, fun e => hne ?_, by rw [← hF]; exact hf⟩
      have e2 := tw_eq hk (by rw [getD_tw hj]; exact List.getElem_mem _) hti e
      rw [getD_tw hj, getD_tw hi] at e2
      have hk2 : (T.map Tw.id)[j]'(by simpa using hj) = (T.map Tw.id)[i]'(by simpa using hi) := by simp [e2]
      exact (List.getElem_inj hk).1 hk2
    · left; simpa using hs
  · intro h k hkn
    rw [Bool.eq_iff_iff, tg_any, tg_any]
    constructor
    · rintro ⟨j, hj, _, hf⟩
      exact ⟨j, hj, by rw [all_bit]; simpa using hj, hf⟩
    · rintro ⟨j, hj, _, hf⟩
      by_cases e : j = i
      · subst e
        rcases h k hkn with h2 | ⟨u, hu, hne, hs⟩
        · rw [hF, h2] at hf; cases hf
        · obtain ⟨q, hq, rfl⟩ := List.getElem_of_mem hu
          have hqi : q ≠ j := by
            rintro rfl
            exact hne (by rw [getD_tw hq])
          refine ⟨q, hq, ?_, by rw [hF, getD_tw hq]; exact hs⟩
          rw [less_bit hi]; simp [hq, hqi]
      · exact ⟨j, hj, by rw [less_bit hi]; simp [hj, e], hf⟩
/-- The IDs of the towers of a set, in order. -/
def idsT (T L : List Tw) (c : Nat) : List Int := (L.map Tw.id).filter fun x => decide (x ∈ idK T c.testBit T.length)
theorem idK_memT {T : List Tw} {c : Nat} {x : Int} : x ∈ idK T c.testBit T.length ↔ ∃ i, i < T.length ∧ c.testBit i = true ∧ (T.getD i .nil).id = x := by
  rw [idK_range]
  simp only [List.mem_map, List.mem_filter, List.mem_range, and_assoc]
theorem idsT_cnd {T L : List Tw} (hL : Ord L T) (c : Nat) : CndR T (idsT T L c) := by
  have h2 : (L.map Tw.id).Pairwise (· < ·) := by rw [List.pairwise_map]; exact hL.2
  refine ⟨h2.sublist List.filter_sublist, fun x hx => ?_⟩
  obtain ⟨t, ht, rfl⟩ := List.mem_map.1 (List.mem_filter.1 hx).1
  exact ⟨t, hL.1.mem_iff.1 ht, rfl⟩
theorem idsT_mem {T L : List Tw} (hL : Ord L T) {c : Nat} {x : Int} : x ∈ idsT T L c ↔ ∃ i, i < T.length ∧ c.testBit i = true ∧ (T.getD i .nil).id = x := by
  unfold idsT
  rw [List.mem_filter, decide_eq_true_eq, idK_memT]
  refine ⟨fun h => h.2, fun h => ⟨?_, h⟩⟩
  obtain ⟨i, hi, _, rfl⟩ := h
  exact List.mem_map.2 ⟨_, hL.1.mem_iff.2 (by rw [getD_tw hi]; exact List.getElem_mem _), rfl⟩
theorem idsT_of {T L : List Tw} {c : Nat} {out : List Int} (hp : out.Perm (idK T c.testBit T.length)) (hs : out.Pairwise (· ≤ ·)) (hL : Ord L T) (hk : (T.map Tw.id).Nodup) : out = idsT T L c := by
  have hsub : (idK T c.testBit T.length).Nodup := by
    rw [idK_range, show (fun i => (T.getD i Tw.nil).id) = Tw.id ∘ (fun i => T.getD i .nil) from rfl, ← List.map_map]
    refine List.Nodup.sublist ?_ hk
    refine List.Sublist.map _ ?_
    have h := (List.filter_sublist (l := List.range T.length) (p := c.testBit)).map (fun i => T.getD i Tw.nil)
    rwa [range_getD] at h
  have hn : out.Nodup := hp.nodup_iff.2 hsub
  rw [List.nodup_iff_pairwise_ne] at hn
  have h1 : out.Pairwise (· < ·) := (hs.and hn).imp fun {s t} h => by have h3 := h.1; have h4 := h.2; omega
  refine pw_ext (R := (· < ·)) (fun x y h => by omega) h1 (idsT_cnd hL c).1 (fun x => ?_)
  rw [hp.mem_iff, idsT_mem hL, idK_memT]
theorem sm_cov {g : List Int} {wd : Int} {T L : List Tw} {rise far : Int} {n c : Nat} {F : Nat → Nat → Bool} (hF : ∀ i k, F i k = seB g wd (T.getD i .nil) (plI wd k) rise far) (hL : Ord L T) (hk : (T.map Tw.id).Nodup) :
    smB (tgK F c T.length) (tgK F (2 ^ T.length - 1) T.length) n = true ↔ CovR g wd T rise far n (idsT T L c) := by
  rw [sm_iff]
  unfold CovR
  constructor
  · intro h k hkn t ht hs
    obtain ⟨i, hi, rfl⟩ := List.getElem_of_mem ht
    have h1 : tgK F (2 ^ T.length - 1) T.length k = true := tg_any.2 ⟨i, hi, by rw [all_bit]; simpa using hi, by rw [hF, getD_tw hi]; exact hs⟩
    rw [← h k hkn] at h1
    obtain ⟨j, hj, hb, hf⟩ := tg_any.1 h1
    exact ⟨T.getD j .nil, by rw [getD_tw hj]; exact List.getElem_mem _, (idsT_mem hL).2 ⟨j, hj, hb, rfl⟩, by rw [← hF]; exact hf⟩
  · intro h k hkn
    rw [Bool.eq_iff_iff, tg_any, tg_any]
    constructor
    · rintro ⟨j, hj, _, hf⟩
      exact ⟨j, hj, by rw [all_bit]; simpa using hj, hf⟩
    · rintro ⟨j, hj, _, hf⟩
      rw [hF] at hf
      obtain ⟨u, hu, hid, hs⟩ := h k hkn _ (by rw [getD_tw hj]; exact List.getElem_mem _) hf
      obtain ⟨i, hi, hb, he⟩ := (idsT_mem hL).1 hid
      have e2 := tw_eq hk (by rw [getD_tw hi]; exact List.getElem_mem _) hu he
      exact ⟨i, hi, hb, by rw [hF, e2]; exact hs⟩
theorem idsT_all {T L : List Tw} (hL : Ord L T) {S : List Int} (h : CndR T S) : ∃ c, c < 2 ^ T.length ∧ idsT T L c = S := by
  refine ⟨mTo (fun i => decide ((T.getD i .nil).id ∈ S)) T.length, mTo_lt _ _, ?_⟩
  refine pw_ext (R := (· < ·)) (fun x y h => by omega) (idsT_cnd hL _).1 h.1 (fun x => ?_)
  rw [idsT_mem hL]
  constructor
  · rintro ⟨i, hi, hb, rfl⟩
    rw [mTo_bit] at hb
    simpa [hi] using hb
  · intro hx
    obtain ⟨t, ht, rfl⟩ := h.2 x hx
    obtain ⟨i, hi, rfl⟩ := List.getElem_of_mem ht
    exact ⟨i, hi, by rw [mTo_bit, getD_tw hi]; simp [hi, hx], by rw [getD_tw hi]⟩
/-- The best list so far, of the sets from one on. -/
def BsT (g : List Int) (wd : Int) (T L : List Tw) (rise far : Int) (n : Nat) (R : List Int) (q : Nat) : Prop := CndR T R ∧ CovR g wd T rise far n R ∧ ∀ c, q ≤ c → c < 2 ^ T.length → CovR g wd T rise far n (idsT T L c) → bfB (idsT T L c) R = false
theorem BsT.fw {g : List Int} {wd : Int} {T L : List Tw} {rise far : Int} {n : Nat} {R : List Int} (hL : Ord L T) (h : BsT g wd T L rise far n R 0) : FwR g wd T rise far n R := by
  refine ⟨h.1, h.2.1, fun S hS hC => ?_⟩
  obtain ⟨c, hc, rfl⟩ := idsT_all hL hS
  exact h.2.2 c (Nat.zero_le _) hc hC
theorem BsT.skip {g : List Int} {wd : Int} {T L : List Tw} {rise far : Int} {n : Nat} {R : List Int} {s : Nat} (h : BsT g wd T L rise far n R (s + 1)) (hb : CovR g wd T rise far n (idsT T L s) → bfB (idsT T L s) R = false) : BsT g wd T L rise far n R s := by
  refine ⟨h.1, h.2.1, fun c h1 h2 h3 => ?_⟩
  by_cases e : c = s
  · subst e; exact hb h3
  · exact h.2.2 c (by omega) h2 h3
theorem BsT.take {g : List Int} {wd : Int} {T L : List Tw} {rise far : Int} {n : Nat} {R : List Int} {s : Nat} (hL : Ord L T) (h : BsT g wd T L rise far n R (s + 1)) (hb : bfB (idsT T L s) R = true) (hc : CovR g wd T rise far n (idsT T L s)) : BsT g wd T L rise far n (idsT T L s) s := by
  refine ⟨idsT_cnd hL s, hc, fun c h1 h2 h3 => ?_⟩
  by_cases e : c = s
  · subst e; exact bf_irr _
  · have h4 := h.2.2 c (by omega) h2 h3
    cases h5 : bfB (idsT T L c) (idsT T L s)
    · rfl
    · rw [bf_trans h5 hb] at h4; cases h4
theorem BsT.first {g : List Int} {wd : Int} {T L : List Tw} {rise far : Int} {n s : Nat} (hL : Ord L T) (hs : s + 1 = 2 ^ T.length) (hc : CovR g wd T rise far n (idsT T L s)) : BsT g wd T L rise far n (idsT T L s) s := by
  refine ⟨idsT_cnd hL s, hc, fun c h1 h2 h3 => ?_⟩
  obtain rfl : c = s := by omega
  exact bf_irr _
theorem pw_cast (n : Nat) : (2 : Int) ^ n = ((2 ^ n : Nat) : Int) := by simp
theorem pw_f {k A : Nat} (hA : A < 8192) (hk : 2 ^ k ≤ A) : IntKind.i64.wrap ((2 : Int) ^ k) = (2 : Int) ^ k ∧ wrap64 ((2 : Int) ^ k) = (2 : Int) ^ k := by
  rw [pw_cast]
  obtain ⟨x, hx⟩ : ∃ x, 2 ^ k = x := ⟨_, rfl⟩
  rw [hx] at hk ⊢
  exact ⟨IntWalk.i64_in _ (by omega), w64 (by omega)⟩
theorem ps_f {k A D : Nat} (hA : A < 8192) (hk : 2 ^ k + D = A) : IntKind.i64.wrap ((A : Int) - (2 : Int) ^ k) = D ∧ wrap64 ((A : Int) - (2 : Int) ^ k) = D := by
  rw [pw_cast]
  obtain ⟨x, hx⟩ : ∃ x, 2 ^ k = x := ⟨_, rfl⟩
  rw [hx] at hk ⊢
  have h : (A : Int) - x = D := by omega
  rw [h]
  exact ⟨IntWalk.i64_in _ (by omega), w64 (by omega)⟩
theorem pa_f {N A : Nat} (hA : A < 8191) (hk : A + 1 = 2 ^ N) : IntKind.i64.wrap ((2 : Int) ^ N - 1) = A ∧ wrap64 ((2 : Int) ^ N - 1) = A := by
  rw [pw_cast, ← hk]
  have h : ((A + 1 : Nat) : Int) - 1 = A := by omega
  rw [h]
  exact ⟨IntWalk.i64_in _ (by omega), w64 (by omega)⟩
theorem RwB.set {w : World} {v : Value} {l : List Int} (h : RwB w v l) {q : Nat} {C : Array Value} {t : TypeId} {fr : Nat × Nat} (hq : w.heap[q]? = some (Obj.cells C t fr)) (hne : t ≠ 3) (k : Nat) (u : Value) : RwB (w.setCell ⟨q, k, none⟩ u) v l := h.keep fun b D hb => by
  by_cases e : b = q
  · subst e
    rw [hq] at hb
    injection hb with hb
    injection hb with h1 h2 h3
    exact absurd h2 hne
  · exact (heap_other _ _ _ _ _ e).trans hb
theorem idsT_len {T L : List Tw} {c : Nat} (hL : Ord L T) : (idsT T L c).length ≤ T.length := by
  unfold idsT
  have h1 := List.length_filter_le (fun x => decide (x ∈ idK T c.testBit T.length)) (L.map Tw.id)
  have h2 := hL.1.length_eq
  rw [List.length_map] at h1
  omega
/-- What the reference's Spare returns. -/
def SpOut (EW : Int) (l : List Int) (w : World) (e : Ending) (w' : World) : Prop :=
  ∃ va n c, e = .returned (.agg #[.slice va n c, .int .i64 EW]) ∧ Below w.heap.size w w' ∧ (EW ≠ 0 → Value.slice va n c = .slice none 0 0) ∧
    (EW = 0 → ∃ out : List Int, w'.ownsRow w.heap.size 3 1 (.slice va n c) out.length (out.map (Value.int .i64 ·)) ∧ out.Perm l ∧ out.Pairwise (· ≤ ·))
/-- What the reference's Fewest returns. -/
def FnOut (EW : Int) (g : List Int) (wd : Int) (T : List Tw) (rise far : Int) (w : World) (e : Ending) (w' : World) : Prop :=
  ∃ va n c, e = .returned (.agg #[.slice va n c, .int .i64 EW]) ∧ Below w.heap.size w w' ∧ (EW ≠ 0 → Value.slice va n c = .slice none 0 0) ∧
    (EW = 0 → ∃ R : List Int, INRow w' (.slice va n c) R ∧ FwR g wd T rise far g.length R)
set_option maxRecDepth 100000 in
set_option maxHeartbeats 8000000 in
theorem rSpare_any (wd hg : Int) (o tv hv : Value) (g : List Int) (T : List Tw) (H : List Hz) (rise tick : Int) (w : World) (ho : INRow w o g) (hl : g.length ≤ 9223372036854775807) (ht : TwRow w tv T) (htl : T.length ≤ 9223372036854775807) (hh : HzRow w hv H) (hhl : H.length ≤ 9223372036854775807) :
    Calls Tryz.prog 18 #[coV wd hg o tv hv, .int .i64 rise, .int .i64 tick] w fun e w' => SpOut (cvE wd hg g T H rise tick) (spL g wd T rise (faO H tick) g.length T) w e w' := by
  have HCV := Lib.hid (fun w' (h : Below w.heap.size w w') => timed_any wd hg o tv hv g T H rise tick w' (ho.keep h) hl (ht.keep h) htl (hh.keep h) hhl)
  have HST := Lib.hid (fun (hcv : cvE wd hg g T H rise tick = 0) w' (h : Below w.heap.size w w') => rSets_any wd hg o tv hv g T H rise tick w' (ho.keep h) (ht.keep h) (hh.keep h) (cvE_ok hcv).1 (cvE_ok hcv).2)
  have HM := Lib.hid (fun (hcv : cvE wd hg g T H rise tick = 0) => And.intro (ckE_ok (cvE_ok hcv).1).1 (And.intro (ckE_ok (cvE_ok hcv).1).2.1 (ckE_ok (cvE_ok hcv).1).2.2.2.2.1))
  obtain ⟨oa, oc, rfl, _⟩ := ho.form
  obtain ⟨ta, tc, rfl, htc⟩ := ht.form
  have HTC := Lib.hid htc
  have HA : Hid (∀ W', Below ((w.alloc (.cells #[.int .i64 wd, .int .i64 hg, .slice oa g.length oc, .slice ta T.length tc, hv] 28)).alloc (.cells #[.slice none 0 0, .int .i64 0] 41)).heap.size ((w.alloc (.cells #[.int .i64 wd, .int .i64 hg, .slice oa g.length oc, .slice ta T.length tc, hv] 28)).alloc (.cells #[.slice none 0 0, .int .i64 0] 41)) W' → W'.cell? ⟨w.heap.size, 0, none⟩ = some (.int .i64 wd) ∧ W'.cell? ⟨w.heap.size, 1, none⟩ = some (.int .i64 hg) ∧ W'.cell? ⟨w.heap.size, 2, none⟩ = some (.slice oa g.length oc) ∧ W'.cell? ⟨w.heap.size, 3, none⟩ = some (.slice ta T.length tc) ∧ W'.cell? ⟨w.heap.size, 4, none⟩ = some hv ∧ W'.heap[w.heap.size + 1]? = some (Obj.cells #[.slice none 0 0, .int .i64 0] 41 (0, 0)) ∧ Below w.heap.size w W') := Lib.hid (fun W' h => by
    obtain ⟨a, b, _, d⟩ := two_cells w _ _ _ _ h
    exact ⟨cellH a 0, cellH a 1, cellH a 2, cellH a 3, cellH a 4, b, d⟩)
  obtain ⟨W1, hW1⟩ : ∃ X, (w.alloc (.cells #[.int .i64 wd, .int .i64 hg, .slice oa g.length oc, .slice ta T.length tc, hv] 28)).alloc (.cells #[.slice none 0 0, .int .i64 0] 41) = X := ⟨_, rfl⟩
  rw [hW1] at HA
  have HW1 := Lib.hid hW1
  have HRD := HA
  have HB0 := Lib.hid (HA.out W1 (Below.refl _ _)).2.2.2.2.2.2
  clear hW1 HA ho ht hh hl htl hhl htc
  obtain ⟨E, hE⟩ : ∃ z, cvE wd hg g T H rise tick = z := ⟨_, rfl⟩
  rw [hE] at HCV HST HM ⊢
  obtain ⟨fa, hf⟩ : ∃ z, faO H tick = z := ⟨_, rfl⟩
  rw [hf] at HST ⊢
  clear hE hf
  by_cases hE0 : E = 0
  case neg =>
    have qe : (E != 0) = true := by simpa using hE0
    have HE0 := Lib.hid hE0
    clear hE0 HST HM
    unfold coV at HCV
    unfold coV
    go_enter Tryz.func18, Tryz.ntmps18
    go_wp2_with fail
    rw [HW1.out]
    obtain ⟨q0, q1, q2, q3, q4, _, _⟩ := HRD.out W1 (Below.refl _ _)
    go_wp2_with fail
    refine (HCV.out _ HB0.out).mono ?_
    rintro e w2 ⟨rfl, hb2⟩
    obtain ⟨_, _, _, _, _, hr, hbw⟩ := HRD.out _ hb2
    have HMM := Lib.hid hr
    have HBW := Lib.hid hbw
    have v0 := cellH hr 0
    have v1 := cellH hr 1
    have vf := freeH hr
    simp at v0 v1
    clear hr hb2 hbw q0 q1 q2 q3 q4
    go_wp2_with fail
    refine bodyPost_ret (results_cell_row Tryz.results18 _ _ (w.heap.size + 1) 41 #[.slice none 0 0, .int .i64 E] (0, 0) _ rfl (heap_same (heap_same HMM.out 0 _) 1 _) Tryz.underlying41 rfl info_ints2) rfl ?_
    exact ⟨_, _, _, rfl, (HBW.out.setCell (p := ⟨w.heap.size + 1, 0, none⟩) (by simp only; omega) _).setCell (p := ⟨w.heap.size + 1, 1, none⟩) (by simp only; omega) _, fun _ => rfl, fun h => absurd h HE0.out⟩
  subst hE0
  obtain ⟨hm, hn12, hnd⟩ := HM.out rfl
  have HST2 := Lib.hid (fun w' h => HST.out rfl w' h)
  clear HST HM
  have hgm : g.length ≤ 2401 := by
    obtain ⟨a1, a2, a3, a4, a5, _⟩ := vmB_ok hm
    have h1 : wd * hg ≤ 49 * 49 := Int.mul_le_mul a2 a4 (by omega) (by omega)
    omega
  have HGM := Lib.hid hgm
  have HN12 := Lib.hid hn12
  have HND := Lib.hid hnd
  obtain ⟨F, hF⟩ : ∃ F : Nat → Nat → Bool, F = fun i k => seB g wd (T.getD i .nil) (plI wd k) rise fa := ⟨_, rfl⟩
  rw [← hF] at HST2
  have HFF := Lib.hid (fun i k => congrFun (congrFun hF i) k)
  have hmin : min ((T.length : Int).toNat) 64 = T.length := by omega
  have hpb := pow_bd hn12
  have hp0 := Nat.two_pow_pos T.length
  obtain ⟨AL, hAL⟩ : ∃ x, 2 ^ T.length - 1 = x := ⟨_, rfl⟩
  have HALX : Hid (2 ^ T.length - 1 = AL ∧ AL + 1 = 2 ^ T.length ∧ AL < 4096) := Lib.hid ⟨hAL, by omega, by omega⟩
  obtain ⟨hsh, hsh2⟩ := pw_f (k := T.length) (A := AL + 1) (by have := HALX.out.2.2; omega) (by rw [HALX.out.2.1]; exact Nat.le_refl _)
  obtain ⟨hsb2, hsb⟩ := pa_f (N := T.length) (A := AL) (by have := HALX.out.2.2; omega) HALX.out.2.1
  clear hm hn12 hnd hgm hF hpb hp0 hAL
  unfold coV at HCV HST2
  unfold coV
  go_enter Tryz.func18, Tryz.ntmps18
  go_wp2_with fail
  rw [HW1.out]
  obtain ⟨q0, q1, q2, q3, q4, _, _⟩ := HRD.out W1 (Below.refl _ _)
  go_wp2_with fail
  refine (HCV.out _ HB0.out).mono ?_
  rintro e w2 ⟨rfl, hb2⟩
  have HD2 := Lib.hid hb2
  have HB2 := Lib.hid (HB0.out.trans (hb2.mono HB0.out.size))
  clear hb2 q0 q1 q2 q3 q4
  obtain ⟨q0, q1, q2, q3, q4, _, _⟩ := HRD.out w2 HD2.out
  go_wp2_with fail
  refine (HST2.out _ HB2.out).mono ?_
  rintro e w6 ⟨v6, rfl, hb6, hbb⟩
  have HBB := Lib.hid hbb
  have HD6 := Lib.hid (HD2.out.trans (hb6.mono HD2.out.size))
  have HB6 := Lib.hid (HB2.out.trans (hb6.mono HB2.out.size))
  obtain ⟨sa, sc, rfl, _⟩ := hbb
  clear hb6 q0 q1 q2 q3 q4
  obtain ⟨q0, q1, q2, q3, q4, _, _⟩ := HRD.out w6 HD6.out
  have HTG := Lib.hid (fun (s : Nat) (hs : s < 4096) w' (h : Below w6.heap.size w6 w') => together_any (.slice sa T.length sc) T.length g.length F s w' (HBB.out.keep h) hs HN12.out HGM.out)
  go_wp2_with fail
  clear hmin hsh hsh2 hsb hsb2 q0 q1 q2 q3 q4
  obtain ⟨i0, hi0, hz0, hz1, hz2⟩ := info_parts info_int1
  have HSS := Lib.hid (fun i (hi : i < T.length) => sm_sp (n := g.length) HFF.out HND.out hi)
  rw [HALX.out.1] at HSS
  obtain ⟨P, hP⟩ : ∃ P : Tw → Bool, spB g wd T rise fa g.length = P := ⟨_, rfl⟩
  have HPP : Hid (spL g wd T rise fa g.length T = (T.filter P).map Tw.id) := Lib.hid (by rw [← hP]; rfl)
  rw [hP] at HSS
  clear hP
  go_loopw [11, 12] (fun v i wr => ∃ (k : Nat), k ≤ T.length ∧ i = .int .i64 k ∧ Hid (Below w6.heap.size w6 wr) ∧ Hid (wr.ownsRow w6.heap.size 3 1 v (idK T (fun i => P (T.getD i .nil)) k).length ((idK T (fun i => P (T.getD i .nil)) k).map (Value.int .i64 ·)))) (fun _ i _ => T.length - (intOf i).toNat)
  case atStart => exact ⟨0, Nat.zero_le _, rfl, Lib.hid (Below.refl _ _), Lib.hid (World.ownsRow_nil _ _ _ _)⟩
  case round =>
    obtain ⟨k, hk, rfl, hB, hO⟩ := hrel
    have HDR := Lib.hid (HD6.out.trans (hB.out.mono HD6.out.size))
    have HBR := Lib.hid (HB6.out.trans (hB.out.mono HB6.out.size))
    by_cases hkl : k < T.length
    · obtain ⟨tb, tf, rfl, htb, d0, d1, d2, d3⟩ := HTC.out k hkl
      have hki : (k : Int) < T.length := by omega
      have hk0 : (0 : Int) ≤ k := by omega
      have hn12 := HN12.out
      have HLN := Lib.hid (idK_len T (fun i => P (T.getD i .nil)) k)
      have HKK : Hid (idK T (fun i => P (T.getD i .nil)) (k + 1) = if P (T.getD k .nil) = true then idK T (fun i => P (T.getD i .nil)) k ++ [(T.getD k .nil).id] else idK T (fun i => P (T.getD i .nil)) k) := Lib.hid rfl
      have HSK := Lib.hid (HSS.out k hkl)
      obtain ⟨K', hK'⟩ : ∃ l, idK T (fun i => P (T.getD i .nil)) (k + 1) = l := ⟨_, rfl⟩
      obtain ⟨dl, hdl⟩ : ∃ l, idK T (fun i => P (T.getD i .nil)) k = l := ⟨_, rfl⟩
      have HKP := Lib.hid hK'
      rw [hK', hdl] at HKK
      rw [hdl] at hO HLN
      obtain ⟨fb, hfb⟩ : ∃ b, P (T.getD k .nil) = b := ⟨_, rfl⟩
      rw [hfb] at HKK HSK
      obtain ⟨⟨ti, tx, ty, th⟩, htt⟩ : ∃ z, T.getD k .nil = z := ⟨_, rfl⟩
      rw [htt] at d0 HKK
      simp only at d0 HKK
      have HTI : Hid (∀ W', Below w.heap.size w W' → W'.cell? ⟨tb, tf + k * 4, none⟩ = some (.int .i64 ti)) := Lib.hid (fun W' h => (h.cell (p := ⟨tb, _, none⟩) htb).trans d0)
      have hmin : min ((k : Int).toNat) 64 = k := by omega
      have hpk : 2 ^ k ≤ AL := by
        have h1 := HALX.out.2.1
        have h2 : 2 ^ (k + 1) ≤ 2 ^ T.length := Nat.pow_le_pow_right (by decide) (by omega)
        rw [Nat.pow_succ] at h2
        have h3 := Nat.two_pow_pos k
        omega
      have hal := HALX.out.2.2
      obtain ⟨hsh, hsh2⟩ := pw_f (k := k) (A := AL) (by omega) hpk
      obtain ⟨A2, hA2⟩ : ∃ x, AL - 2 ^ k = x := ⟨_, rfl⟩
      obtain ⟨hsb2, hsb⟩ := ps_f (k := k) (A := AL) (D := A2) (by omega) (by omega)
      rw [hA2] at HSK
      have HA2 : Hid (A2 < 4096) := Lib.hid (by rw [← hA2]; exact Nat.lt_of_le_of_lt (Nat.sub_le _ _) HALX.out.2.2)
      clear hK' hdl hfb htt d0 d1 d2 d3 htb hpk hA2 hal
      go_wp2_with fail
      clear hmin hsh hsh2 hsb hsb2
      refine (HTG.out A2 HA2.out wr hB.out).mono ?_
      rintro e w7 ⟨r7, rfl, hb7, hr7⟩
      have HD7 := Lib.hid (hB.out.trans (hb7.mono hB.out.size))
      have HO7 := Lib.hid (own_below hO.out hb7)
      have HR7 := Lib.hid hr7
      clear hb7 hr7
      go_wp2_with fail
      refine (HTG.out AL HALX.out.2.2 w7 HD7.out).mono ?_
      rintro e w8 ⟨r8, rfl, hb8, hr8⟩
      have HD8 := Lib.hid (HD7.out.trans (hb8.mono HD7.out.size))
      have HO8 := Lib.hid (own_below HO7.out hb8)
      have HR78 := Lib.hid (HR7.out.keep hb8)
      have HSA := Lib.hid (same_any r7 r8 g.length _ _ w8 HR78.out hr8 (by have := HGM.out; omega))
      rw [HSK.out] at HSA
      clear hb8 hr8
      go_wp2_with fail
      refine HSA.out.mono ?_
      rintro e w9 ⟨rfl, hb9⟩
      have HD9 := Lib.hid (HD8.out.trans (hb9.mono HD8.out.size))
      have HO9 := Lib.hid (own_below HO8.out hb9)
      have HB9 := Lib.hid (HB6.out.trans (HD9.out.mono HB6.out.size))
      have hti := HTI.out w9 HB9.out
      obtain ⟨q0, q1, q2, q3, q4, _, _⟩ := HRD.out w9 (HD6.out.trans (HD9.out.mono HD6.out.size))
      clear hb9 HSA
      cases fb
      · have HOX : Hid (w9.ownsRow w6.heap.size 3 1 u11 (idK T (fun i => P (T.getD i .nil)) (k + 1)).length ((idK T (fun i => P (T.getD i .nil)) (k + 1)).map (Value.int .i64 ·))) := Lib.hid (by rw [HKP.out, HKK.out]; exact HO9.out)
        clear HKP HKK HLN q0 q1 q2 q3 q4 hti
        go_wp2_with fail
        go_roundw
        case rel => exact ⟨k + 1, by omega, by go_num, HD9, HOX⟩
        case measure => simp [intOf]; omega
      · have hlen := HLN.out
        have h63 : dl.length + 1 ≤ maxLen := by unfold maxLen; omega
        have hby : (dl.length + 1) * 8 ≤ 140737488355328 := by omega
        have hbase : w6.heap.size ≤ w9.heap.size := HD9.out.size
        have hO6 := HO9.out
        clear hlen
        go_wp2_with (at_builtin; refine wpList_append_own _ rfl _ _ 22 rfl w6.heap.size 3 i0 (.int .i64 0) 1 8 Tryz.underlying22 hi0 hz0 hz1 hz2 rfl (by decide) _ _ _ rfl (World.ownsRow.alloc hO6 _) ⟨w9.heap.size, 0, none⟩ 1 1 [.int .i64 ti] rfl rfl (fun j u h => cell_one' _ _ _ j u h) (by simp [Value.oneCell']) h63 hby (by simp; omega) ?_; intro v' w10 hown' hgrow _)
        have HBX : Hid (Below w6.heap.size w6 w10) := Lib.hid ((HD9.out.alloc hbase _).grown hgrow (by simp; omega) (fun j e => (World.ownsRow.lt hO6 j e).1))
        have HOX : Hid (w10.ownsRow w6.heap.size 3 1 v' (idK T (fun i => P (T.getD i .nil)) (k + 1)).length ((idK T (fun i => P (T.getD i .nil)) (k + 1)).map (Value.int .i64 ·))) := Lib.hid (by
          rw [HKP.out, (show K' = dl ++ [ti] by rw [HKK.out]; simp), List.length_append, List.map_append]; exact hown')
        clear hown' hgrow hO6 q0 q1 q2 q3 q4 hti HKP HKK
        go_wp2_with fail
        go_roundw
        case rel => exact ⟨k + 1, by omega, by go_num, HBX, HOX⟩
        case measure => simp [intOf]; omega
    · obtain rfl : k = T.length := by omega
      have hidk := idK_is (L := T) (f := fun i => P (T.getD i .nil)) (P := P) (fun i _ => rfl) T.length (Nat.le_refl _)
      rw [List.take_length] at hidk
      have hO2 : Hid (wr.ownsRow w6.heap.size 3 1 u11 ((T.filter P).map Tw.id).length (((T.filter P).map Tw.id).map (Value.int .i64 ·))) := Lib.hid (by
        have h := hO.out
        rw [hidk] at h
        exact h)
      have HWL : Hid (((T.filter P).map Tw.id).length ≤ 1000) := Lib.hid (by rw [List.length_map]; have h1 := List.length_filter_le P T; have h2 := HN12.out; omega)
      have HRG := Lib.hid (rising_any _ _ wr (INRow.of_own hO2.out) HWL.out)
      clear hO hidk
      go_wp2_with fail
      refine HRG.out.mono ?_
      rintro e w9 ⟨v9, out, rfl, hb9, hown, hperm, hsort⟩
      have HD9 := Lib.hid (HDR.out.trans (hb9.mono HDR.out.size))
      obtain ⟨va, vc, rfl⟩ := row_form hown
      have HOW := Lib.hid (own_base hown HBR.out.size)
      have HPS := Lib.hid (show _ ∧ _ from ⟨hperm, hsort⟩)
      obtain ⟨_, _, _, _, _, hr, hbw⟩ := HRD.out _ HD9.out
      have HMM := Lib.hid hr
      have HBW := Lib.hid hbw
      have v0 := cellH hr 0
      have v1 := cellH hr 1
      have vf := freeH hr
      simp at v0 v1
      clear hb9 hown hperm hsort hr hbw
      go_wp2_with fail
      refine bodyPost_ret (results_cell_row Tryz.results18 _ _ (w.heap.size + 1) 41 #[.slice va out.length vc, .int .i64 0] (0, 0) _ rfl (heap_same (heap_same HMM.out 0 _) 1 _) Tryz.underlying41 rfl info_ints2) rfl ?_
      unfold SpOut
      exact ⟨_, _, _, rfl, (HBW.out.setCell (p := ⟨w.heap.size + 1, 0, none⟩) (by simp only; omega) _).setCell (p := ⟨w.heap.size + 1, 1, none⟩) (by simp only; omega) _, fun h => absurd rfl h, fun _ => ⟨out, row_set (row_set HOW.out HMM.out (by decide) 0 _) (heap_same HMM.out 0 _) (by decide) 1 _, by rw [HPP.out]; exact HPS.out.1, HPS.out.2⟩⟩
set_option maxRecDepth 100000 in
set_option maxHeartbeats 8000000 in
theorem rFewest_any (wd hg : Int) (o tv hv : Value) (g : List Int) (T : List Tw) (H : List Hz) (rise tick : Int) (w : World) (ho : INRow w o g) (hl : g.length ≤ 9223372036854775807) (ht : TwRow w tv T) (htl : T.length ≤ 9223372036854775807) (hh : HzRow w hv H) (hhl : H.length ≤ 9223372036854775807) :
    Calls Tryz.prog 20 #[coV wd hg o tv hv, .int .i64 rise, .int .i64 tick] w fun e w' => FnOut (cvE wd hg g T H rise tick) g wd T rise (faO H tick) w e w' := by
  have HCV := Lib.hid (fun w' (h : Below w.heap.size w w') => timed_any wd hg o tv hv g T H rise tick w' (ho.keep h) hl (ht.keep h) htl (hh.keep h) hhl)
  have HST := Lib.hid (fun (hcv : cvE wd hg g T H rise tick = 0) w' (h : Below w.heap.size w w') => rSets_any wd hg o tv hv g T H rise tick w' (ho.keep h) (ht.keep h) (hh.keep h) (cvE_ok hcv).1 (cvE_ok hcv).2)
  have HM := Lib.hid (fun (hcv : cvE wd hg g T H rise tick = 0) => And.intro (ckE_ok (cvE_ok hcv).1).1 (And.intro (ckE_ok (cvE_ok hcv).1).2.1 (ckE_ok (cvE_ok hcv).1).2.2.2.2.1))
  obtain ⟨oa, oc, rfl, _⟩ := ho.form
  obtain ⟨ta, tc, rfl, htc⟩ := ht.form
  have HTC := Lib.hid htc
  have HA : Hid (∀ W', Below ((w.alloc (.cells #[.int .i64 wd, .int .i64 hg, .slice oa g.length oc, .slice ta T.length tc, hv] 28)).alloc (.cells #[.slice none 0 0, .int .i64 0] 41)).heap.size ((w.alloc (.cells #[.int .i64 wd, .int .i64 hg, .slice oa g.length oc, .slice ta T.length tc, hv] 28)).alloc (.cells #[.slice none 0 0, .int .i64 0] 41)) W' → W'.cell? ⟨w.heap.size, 0, none⟩ = some (.int .i64 wd) ∧ W'.cell? ⟨w.heap.size, 1, none⟩ = some (.int .i64 hg) ∧ W'.cell? ⟨w.heap.size, 2, none⟩ = some (.slice oa g.length oc) ∧ W'.cell? ⟨w.heap.size, 3, none⟩ = some (.slice ta T.length tc) ∧ W'.cell? ⟨w.heap.size, 4, none⟩ = some hv ∧ W'.heap[w.heap.size + 1]? = some (Obj.cells #[.slice none 0 0, .int .i64 0] 41 (0, 0)) ∧ Below w.heap.size w W') := Lib.hid (fun W' h => by
    obtain ⟨a, b, _, d⟩ := two_cells w _ _ _ _ h
    exact ⟨cellH a 0, cellH a 1, cellH a 2, cellH a 3, cellH a 4, b, d⟩)
  obtain ⟨W1, hW1⟩ : ∃ X, (w.alloc (.cells #[.int .i64 wd, .int .i64 hg, .slice oa g.length oc, .slice ta T.length tc, hv] 28)).alloc (.cells #[.slice none 0 0, .int .i64 0] 41) = X := ⟨_, rfl⟩
  rw [hW1] at HA
  have HW1 := Lib.hid hW1
  have HRD := HA
  have HB0 := Lib.hid (HA.out W1 (Below.refl _ _)).2.2.2.2.2.2
  clear hW1 HA ho ht hh hl htl hhl htc
  obtain ⟨E, hE⟩ : ∃ z, cvE wd hg g T H rise tick = z := ⟨_, rfl⟩
  rw [hE] at HCV HST HM ⊢
  obtain ⟨fa, hf⟩ : ∃ z, faO H tick = z := ⟨_, rfl⟩
  rw [hf] at HST ⊢
  clear hE hf
  by_cases hE0 : E = 0
  case neg =>
    have qe : (E != 0) = true := by simpa using hE0
    have HE0 := Lib.hid hE0
    clear hE0 HST HM
    unfold coV at HCV
    unfold coV
    go_enter Tryz.func20, Tryz.ntmps20
    go_wp2_with fail
    rw [HW1.out]
    obtain ⟨q0, q1, q2, q3, q4, _, _⟩ := HRD.out W1 (Below.refl _ _)
    go_wp2_with fail
    refine (HCV.out _ HB0.out).mono ?_
    rintro e w2 ⟨rfl, hb2⟩
    obtain ⟨_, _, _, _, _, hr, hbw⟩ := HRD.out _ hb2
    have HMM := Lib.hid hr
    have HBW := Lib.hid hbw
    have v0 := cellH hr 0
    have v1 := cellH hr 1
    have vf := freeH hr
    simp at v0 v1
    clear hr hb2 hbw q0 q1 q2 q3 q4
    go_wp2_with fail
    refine bodyPost_ret (results_cell_row Tryz.results20 _ _ (w.heap.size + 1) 41 #[.slice none 0 0, .int .i64 E] (0, 0) _ rfl (heap_same (heap_same HMM.out 0 _) 1 _) Tryz.underlying41 rfl info_ints2) rfl ?_
    exact ⟨_, _, _, rfl, (HBW.out.setCell (p := ⟨w.heap.size + 1, 0, none⟩) (by simp only; omega) _).setCell (p := ⟨w.heap.size + 1, 1, none⟩) (by simp only; omega) _, fun _ => rfl, fun h => absurd h HE0.out⟩
  subst hE0
  obtain ⟨hm, hn12, hnd⟩ := HM.out rfl
  have HST2 := Lib.hid (fun w' h => HST.out rfl w' h)
  clear HST HM
  have hgm : g.length ≤ 2401 := by
    obtain ⟨a1, a2, a3, a4, a5, _⟩ := vmB_ok hm
    have h1 : wd * hg ≤ 49 * 49 := Int.mul_le_mul a2 a4 (by omega) (by omega)
    omega
  have HGM := Lib.hid hgm
  have HN12 := Lib.hid hn12
  have HND := Lib.hid hnd
  obtain ⟨F, hF⟩ : ∃ F : Nat → Nat → Bool, F = fun i k => seB g wd (T.getD i .nil) (plI wd k) rise fa := ⟨_, rfl⟩
  rw [← hF] at HST2
  have HFF := Lib.hid (fun i k => congrFun (congrFun hF i) k)
  have hmin : min ((T.length : Int).toNat) 64 = T.length := by omega
  have hpb := pow_bd hn12
  have hp0 := Nat.two_pow_pos T.length
  obtain ⟨AL, hAL⟩ : ∃ x, 2 ^ T.length - 1 = x := ⟨_, rfl⟩
  have HALX : Hid (2 ^ T.length - 1 = AL ∧ AL + 1 = 2 ^ T.length ∧ AL < 4096) := Lib.hid ⟨hAL, by omega, by omega⟩
  obtain ⟨hsh, hsh2⟩ := pw_f (k := T.length) (A := AL + 1) (by have := HALX.out.2.2; omega) (by rw [HALX.out.2.1]; exact Nat.le_refl _)
  obtain ⟨hsb2, hsb⟩ := pa_f (N := T.length) (A := AL) (by have := HALX.out.2.2; omega) HALX.out.2.1
  clear hm hn12 hnd hgm hF hpb hp0 hAL
  unfold coV at HCV HST2
  unfold coV
  go_enter Tryz.func20, Tryz.ntmps20
  go_wp2_with fail
  rw [HW1.out]
  obtain ⟨q0, q1, q2, q3, q4, _, _⟩ := HRD.out W1 (Below.refl _ _)
  go_wp2_with fail
  refine (HCV.out _ HB0.out).mono ?_
  rintro e w2 ⟨rfl, hb2⟩
  have HD2 := Lib.hid hb2
  have HB2 := Lib.hid (HB0.out.trans (hb2.mono HB0.out.size))
  clear hb2 q0 q1 q2 q3 q4
  obtain ⟨q0, q1, q2, q3, q4, _, _⟩ := HRD.out w2 HD2.out
  go_wp2_with fail
  refine (HST2.out _ HB2.out).mono ?_
  rintro e w6 ⟨v6, rfl, hb6, hbb⟩
  have HBB := Lib.hid hbb
  have HD6 := Lib.hid (HD2.out.trans (hb6.mono HD2.out.size))
  have HB6 := Lib.hid (HB2.out.trans (hb6.mono HB2.out.size))
  obtain ⟨sa, sc, rfl, _⟩ := hbb
  clear hb6 q0 q1 q2 q3 q4
  obtain ⟨q0, q1, q2, q3, q4, _, _⟩ := HRD.out w6 HD6.out
  have HTG := Lib.hid (fun (s : Nat) (hs : s < 4096) w' (h : Below w6.heap.size w6 w') => together_any (.slice sa T.length sc) T.length g.length F s w' (HBB.out.keep h) hs HN12.out HGM.out)
  go_wp2_with fail
  refine (HTG.out AL HALX.out.2.2 w6 (Below.refl _ _)).mono ?_
  rintro e w7 ⟨r7, rfl, hb7, hr7⟩
  have HW7 := Lib.hid hr7
  have HD7 := Lib.hid (HD6.out.trans (hb7.mono HD6.out.size))
  have HB7 := Lib.hid (HB6.out.trans (hb7.mono HB6.out.size))
  have HTG7 := Lib.hid (fun (s : Nat) (hs : s < 4096) w' (h : Below w7.heap.size w7 w') => HTG.out s hs w' (hb7.trans (h.mono hb7.size)))
  clear hmin hsh hsh2 hsb hsb2 q0 q1 q2 q3 q4 hb7 hr7
  obtain ⟨i0, hi0, hz0, hz1, hz2⟩ := info_parts info_int1
  obtain ⟨L, hL⟩ := ord_exists HND.out
  have HLX := Lib.hid hL
  have HSM := Lib.hid (fun c => sm_cov (n := g.length) (c := c) HFF.out hL HND.out)
  rw [HALX.out.1] at HSM
  clear hL
  go_wp2_with fail
  go_loopw [12, 13] (fun v i wr => ∃ (z : Int) (q : Nat), q ≤ AL + 1 ∧ z + 1 = q ∧ i = .int .i64 z ∧ Hid (Below w7.heap.size w7 wr) ∧ Hid (∃ bl, RwB wr v bl ∧ bl.length ≤ 1000 ∧ ((q = AL + 1 ∧ bl = []) ∨ BsT g wd T L rise fa g.length bl q))) (fun _ i _ => (intOf i + 1).toNat)
  case atStart => exact ⟨AL, AL + 1, Nat.le_refl _, by omega, rfl, Lib.hid (Below.refl _ _), Lib.hid ⟨[], .inl ⟨rfl, rfl⟩, by simp, .inl ⟨rfl, rfl⟩⟩⟩
  case round =>
    obtain ⟨z, q, hq, hzq, rfl, hB, hS⟩ := hrel
    have HDR := Lib.hid (HD7.out.trans (hB.out.mono HD7.out.size))
    have HBR := Lib.hid (HB7.out.trans (hB.out.mono HB7.out.size))
    have hS' := hS.out
    obtain ⟨bl, hrb, hbl, hst⟩ := hS'
    have HRB := Lib.hid hrb
    have HBL := Lib.hid hbl
    have HST := Lib.hid hst
    obtain ⟨ba, bc, rfl, _⟩ := hrb.row.form
    clear hS hrb hbl hst
    by_cases hz0 : 0 ≤ z
    · obtain ⟨s, rfl⟩ := Int.eq_ofNat_of_zero_le hz0
      obtain rfl : q = s + 1 := by omega
      have HSL : Hid (s < 4096 ∧ s ≤ AL) := Lib.hid (by have := HALX.out.2.2; omega)
      have hs0 : (0 : Int) ≤ (s : Int) := by omega
      clear hzq hz0 hq
      obtain ⟨Wo, hWo⟩ : ∃ X, X = wr := ⟨_, rfl⟩
      subst hWo
      go_wp2_with fail
      go_loopw [14, 15] (fun v i wr => ∃ (k : Nat), k ≤ T.length ∧ i = .int .i64 k ∧ Hid (Below Wo.heap.size Wo wr) ∧ Hid (wr.ownsRow Wo.heap.size 3 1 v (idK T s.testBit k).length ((idK T s.testBit k).map (Value.int .i64 ·)))) (fun _ i _ => T.length - (intOf i).toNat)
      case atStart => exact ⟨0, Nat.zero_le _, rfl, Lib.hid (Below.refl _ _), Lib.hid (World.ownsRow_nil _ _ _ _)⟩
      case round =>
        obtain ⟨k, hk, rfl, hB2, hO⟩ := hrel
        by_cases hkl : k < T.length
        · obtain ⟨ub, uf, rfl, hub, d0, d1, d2, d3⟩ := HTC.out k hkl
          have hki : (k : Int) < T.length := by omega
          have hk0 : (0 : Int) ≤ k := by omega
          have hn12 := HN12.out
          have hmin : min ((k : Int).toNat) 64 = k := by omega
          have HB3 := Lib.hid (HBR.out.trans (hB2.out.mono HBR.out.size))
          have HD3 := Lib.hid (HDR.out.trans (hB2.out.mono HDR.out.size))
          obtain ⟨hsh, hsh2⟩ := pw_f (k := k) (A := 4096) (by omega) (pow_bd (by omega))
          have hpn : ¬ ((2 : Int) ^ k = 0) := by
            have hp0 := Nat.two_pow_pos k
            rw [pow_cast]; omega
          have hbw := bit_walk s k HSL.out.1 (by omega)
          have HLN := Lib.hid (idK_len T s.testBit k)
          have HKK : Hid (idK T s.testBit (k + 1) = if s.testBit k = true then idK T s.testBit k ++ [(T.getD k .nil).id] else idK T s.testBit k) := Lib.hid rfl
          obtain ⟨K', hK'⟩ : ∃ l, idK T s.testBit (k + 1) = l := ⟨_, rfl⟩
          obtain ⟨dl, hdl⟩ : ∃ l, idK T s.testBit k = l := ⟨_, rfl⟩
          have HKP := Lib.hid hK'
          rw [hK', hdl] at HKK
          rw [hdl] at hO HLN
          obtain ⟨fb, hfb⟩ : ∃ b, s.testBit k = b := ⟨_, rfl⟩
          rw [hfb] at HKK hbw
          obtain ⟨⟨ti, tx, ty, th⟩, htt⟩ : ∃ z, T.getD k .nil = z := ⟨_, rfl⟩
          rw [htt] at d0 HKK
          simp only at d0 HKK
          have hti := (HB3.out.cell (p := ⟨ub, _, none⟩) hub).trans d0
          obtain ⟨q0, q1, q2, q3, q4, _, _⟩ := HRD.out wr HD3.out
          clear hK' hdl hfb htt d0 d1 d2 d3 hub
          cases fb
          · have HOX : Hid (wr.ownsRow Wo.heap.size 3 1 u14 (idK T s.testBit (k + 1)).length ((idK T s.testBit (k + 1)).map (Value.int .i64 ·))) := Lib.hid (by rw [HKP.out, HKK.out]; exact hO.out)
            clear HKP HKK HLN
            go_wp2_with fail
            go_roundw
            case rel => exact ⟨k + 1, by omega, by go_num, hB2, HOX⟩
            case measure => simp [intOf] <;> omega
          · have hlen := HLN.out
            have h63 : dl.length + 1 ≤ maxLen := by unfold maxLen; omega
            have hby : (dl.length + 1) * 8 ≤ 140737488355328 := by omega
            have hbase : Wo.heap.size ≤ wr.heap.size := hB2.out.size
            have hO6 := hO.out
            clear hlen
            go_wp2_with (at_builtin; refine wpList_append_own _ rfl _ _ 22 rfl Wo.heap.size 3 i0 (.int .i64 0) 1 8 Tryz.underlying22 hi0 hz0 hz1 hz2 rfl (by decide) _ _ _ rfl (World.ownsRow.alloc hO6 _) ⟨wr.heap.size, 0, none⟩ 1 1 [.int .i64 ti] rfl rfl (fun j u h => cell_one' _ _ _ j u h) (by simp [Value.oneCell']) h63 hby (by simp; omega) ?_; intro v' w10 hown' hgrow _)
            have HBX : Hid (Below Wo.heap.size Wo w10) := Lib.hid ((hB2.out.alloc hbase _).grown hgrow (by simp; omega) (fun j e => (World.ownsRow.lt hO6 j e).1))
            have HOX : Hid (w10.ownsRow Wo.heap.size 3 1 v' (idK T s.testBit (k + 1)).length ((idK T s.testBit (k + 1)).map (Value.int .i64 ·))) := Lib.hid (by
              rw [HKP.out, (show K' = dl ++ [ti] by rw [HKK.out]; simp), List.length_append, List.map_append]; exact hown')
            clear hown' hgrow hO6 q0 q1 q2 q3 q4 hti HKP HKK
            go_wp2_with fail
            go_roundw
            case rel => exact ⟨k + 1, by omega, by go_num, HBX, HOX⟩
            case measure => simp [intOf] <;> omega
        · obtain rfl : k = T.length := by omega
          have HWL : Hid ((idK T s.testBit T.length).length ≤ 1000) := Lib.hid (by have h1 := idK_len T s.testBit T.length; have h2 := HN12.out; omega)
          have HRG := Lib.hid (rising_any _ _ wr (INRow.of_own hO.out) HWL.out)
          clear hO
          go_wp2_with fail
          refine HRG.out.mono ?_
          rintro e w9 ⟨v9, out, rfl, hb9, hown, hperm, hsort⟩
          obtain ⟨sl, hsl⟩ : ∃ x, idsT T L s = x := ⟨_, rfl⟩
          have HSD := Lib.hid hsl
          obtain rfl : out = sl := (idsT_of hperm hsort HLX.out HND.out).trans hsl
          have HLEN : Hid (out.length ≤ 1000) := Lib.hid (by have h1 := idsT_len (c := s) HLX.out; have h2 := HN12.out; rw [hsl] at h1; omega)
          obtain ⟨ia, ic, rfl⟩ := row_form hown
          have HX9 : Below Wo.heap.size Wo w9 := hB2.out.trans (hb9.mono hB2.out.size)
          have HR9 := Lib.hid (RwB.of_own hown)
          have HRB9 := Lib.hid (HRB.out.below HX9)
          have HD9 := Lib.hid (hB.out.trans (HX9.mono hB.out.size))
          have hsAL := HALX.out.2.2
          have hsle := HSL.out.2
          have hw1 : wrap64 ((s : Int) - 1) = (s : Int) - 1 := w64 (by omega)
          have hw2 : IntKind.i64.wrap ((s : Int) - 1) = (s : Int) - 1 := IntWalk.i64_in _ (by omega)
          clear hsAL hsle
          clear HX9 hb9 hown hperm hsort hsl HRG HWL hB2
          by_cases hsa : s = AL
          · have hsn : ((s : Int) != (AL : Int)) = false := by subst hsa; simp
            have HSA := Lib.hid hsa
            clear hsa
            go_wp2_with fail
            refine (HTG7.out s HSL.out.1 w9 HD9.out).mono ?_
            rintro e w10 ⟨r10, rfl, hb10, hr10⟩
            have HD10 := Lib.hid (HD9.out.trans (hb10.mono HD9.out.size))
            have HR10 := Lib.hid (HR9.out.below hb10)
            have HRB10 := Lib.hid (HRB9.out.below hb10)
            have hsame := same_any r10 r7 g.length _ _ w10 hr10 (HW7.out.keep HD10.out) (by have := HGM.out; omega)
            clear hb10 hr10
            rw [show smB (tgK F s T.length) (tgK F AL T.length) g.length = true by rw [HSA.out]; exact sm_iff.2 fun _ _ => rfl] at hsame
            have HSAM := Lib.hid hsame
            clear hsame
            go_wp2_with fail
            refine HSAM.out.mono ?_
            rintro e w11 ⟨rfl, hb11⟩
            have HD11 := Lib.hid (HD10.out.trans (hb11.mono HD10.out.size))
            have HR11 := Lib.hid (HR10.out.below hb11)
            have HRB11 := Lib.hid (HRB10.out.below hb11)
            clear hb11 HSAM
            go_wp2_with fail
            go_roundw
            case rel => exact ⟨(s : Int) - 1, s, by have := HSL.out.2; omega, by omega, by go_num, HD11, Lib.hid ⟨out, HR11.out, HLEN.out, .inr (by
              have h := BsT.first (g := g) (wd := wd) (rise := rise) (far := fa) (n := g.length) HLX.out (show s + 1 = 2 ^ T.length by rw [HSA.out]; exact HALX.out.2.1) ((HSM.out s).1 (by rw [HSA.out]; exact sm_iff.2 fun _ _ => rfl))
              rw [HSD.out] at h; exact h)⟩⟩
            case measure => simp [intOf] <;> omega
          · have hsn : ((s : Int) != (AL : Int)) = true := by simp; omega
            have HBS : Hid (BsT g wd T L rise fa g.length bl (s + 1)) := Lib.hid (by
              rcases HST.out with ⟨h1, _⟩ | h
              · omega
              · exact h)
            have HBF := Lib.hid (before_any _ _ out bl w9 HR9.out.row HRB9.out.row (by have := HLEN.out; omega) (by have := HBL.out; omega))
            obtain ⟨bb, hbb⟩ : ∃ b, bfB out bl = b := ⟨_, rfl⟩
            have HBB := Lib.hid hbb
            rw [hbb] at HBF
            clear hsa hbb
            go_wp2_with fail
            refine HBF.out.mono ?_
            rintro e w9b ⟨rfl, hb9⟩
            have HD9b := Lib.hid (HD9.out.trans (hb9.mono HD9.out.size))
            have HR9b := Lib.hid (HR9.out.below hb9)
            have HRB9b := Lib.hid (HRB9.out.below hb9)
            clear hb9 HBF
            cases bb
            · go_wp2_with fail
              go_roundw
              case rel => exact ⟨(s : Int) - 1, s, by have := HSL.out.2; omega, by omega, by go_num, HD9b, Lib.hid ⟨bl, HRB9b.out, HBL.out, .inr (HBS.out.skip fun _ => by rw [HSD.out]; exact HBB.out)⟩⟩
              case measure => simp [intOf] <;> omega
            · go_wp2_with fail
              refine (HTG7.out s HSL.out.1 w9b HD9b.out).mono ?_
              rintro e w10 ⟨r10, rfl, hb10, hr10⟩
              have HD10 := Lib.hid (HD9b.out.trans (hb10.mono HD9b.out.size))
              have HR10 := Lib.hid (HR9b.out.below hb10)
              have HRB10 := Lib.hid (HRB9b.out.below hb10)
              have hsame := same_any r10 r7 g.length _ _ w10 hr10 (HW7.out.keep HD10.out) (by have := HGM.out; omega)
              clear hb10 hr10
              obtain ⟨sb, hsb⟩ : ∃ b, smB (tgK F s T.length) (tgK F AL T.length) g.length = b := ⟨_, rfl⟩
              have HSB := Lib.hid hsb
              rw [hsb] at hsame
              clear hsb
              have HSAM := Lib.hid hsame
              clear hsame
              go_wp2_with fail
              refine HSAM.out.mono ?_
              rintro e w11 ⟨rfl, hb11⟩
              have HD11 := Lib.hid (HD10.out.trans (hb11.mono HD10.out.size))
              have HR11 := Lib.hid (HR10.out.below hb11)
              have HRB11 := Lib.hid (HRB10.out.below hb11)
              clear hb11 HSAM
              cases sb
              · go_wp2_with fail
                go_roundw
                case rel => exact ⟨(s : Int) - 1, s, by have := HSL.out.2; omega, by omega, by go_num, HD11, Lib.hid ⟨bl, HRB11.out, HBL.out, .inr (HBS.out.skip fun hc => by have h := (HSM.out s).2 hc; rw [HSB.out] at h; cases h)⟩⟩
                case measure => simp [intOf] <;> omega
              · go_wp2_with fail
                go_roundw
                case rel => exact ⟨(s : Int) - 1, s, by have := HSL.out.2; omega, by omega, by go_num, HD11, Lib.hid ⟨out, HR11.out, HLEN.out, .inr (by
                  have h := HBS.out.take HLX.out (by rw [HSD.out]; exact HBB.out) ((HSM.out s).1 HSB.out)
                  rw [HSD.out] at h; exact h)⟩⟩
                case measure => simp [intOf] <;> omega
    · obtain rfl : q = 0 := by omega
      have hzn : ¬ (0 ≤ z) := hz0
      have HBS : Hid (BsT g wd T L rise fa g.length bl 0) := Lib.hid (by
        rcases HST.out with ⟨h1, _⟩ | h
        · omega
        · exact h)
      obtain ⟨_, _, _, _, _, hr, hbw⟩ := HRD.out _ HDR.out
      have HMM := Lib.hid hr
      have HBW := Lib.hid hbw
      have v0 := cellH hr 0
      have v1 := cellH hr 1
      have vf := freeH hr
      simp at v0 v1
      clear hr hbw hq hzq HST
      go_wp2_with fail
      refine bodyPost_ret (results_cell_row Tryz.results20 _ _ (w.heap.size + 1) 41 #[.slice ba bl.length bc, .int .i64 0] (0, 0) _ rfl (heap_same (heap_same HMM.out 0 _) 1 _) Tryz.underlying41 rfl info_ints2) rfl ?_
      unfold FnOut
      exact ⟨_, _, _, rfl, (HBW.out.setCell (p := ⟨w.heap.size + 1, 0, none⟩) (by simp only; omega) _).setCell (p := ⟨w.heap.size + 1, 1, none⟩) (by simp only; omega) _, fun h => absurd rfl h, fun _ => ⟨bl, ((HRB.out.set HMM.out (by decide) 0 _).set (heap_same HMM.out 0 _) (by decide) 1 _).row, HBS.out.fw HLX.out⟩⟩

end Go.Proofs.YtnacgogcbbpjmaaGreat
