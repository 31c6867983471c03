/- RidgeTogether: what the places that are seen say of each other. -/
import Derived.Test.YtnacgogcbbpjmaaHC2
import Derived.Test.YtnacgogcbbpjmaaHL3
import Derived.Test.YtnacgogcbbpjmaaHQ1
import Derived.Test.YtnacgogcbbpjmaaHV1
import Derived.Test.YtnacgogcbbpjmaaHV4
import Derived.Test.YtnacgogcbbpjmaaHU3
import Derived.Test.YtnacgogcbbpjmaaHU4
import Derived.Test.YtnacgogcbbpjmaaHW1
import Derived.Test.YtnacgogcbbpjmaaHW2
import Derived.Deep.RegionHeld3
set_option linter.unusedVariables false
set_option linter.unusedSimpArgs false
namespace Go.Proofs.Ytnacgogcbbpjmaa
open Go Go.RowKit

theorem one_le_count {T : List Tw} {f : Tw → Bool} : (1 ≤ ((T.countP f : Nat) : Int)) ↔ ∃ t ∈ T, f t = true := by
  rw [show ((1 : Int) ≤ ((T.countP f : Nat) : Int)) ↔ 0 < T.countP f by omega, List.countP_pos_iff]
theorem cvT_mem {g : List Int} {wd : Int} {T : List Tw} {rise far : Int} : ∀ {n : Nat} {p : Pl}, p ∈ cvT 1 g wd T rise far n ↔ ∃ k, k < n ∧ p = plI wd k ∧ ∃ t ∈ T, seB g wd t (plI wd k) rise far = true
  | 0, p => by simp [cvT]
  | n + 1, p => by
    have hc := one_le_count (T := T) (f := fun t => seB g wd t (plI wd n) rise far)
    rw [cvT]
    split
    · rename_i h
      rw [List.mem_append, cvT_mem, List.mem_singleton]
      constructor
      · rintro (⟨k, h1, h2, h3⟩ | rfl)
        · exact ⟨k, by omega, h2, h3⟩
        · exact ⟨n, by omega, rfl, hc.1 h⟩
      · rintro ⟨k, h1, h2, h3⟩
        by_cases e : k = n
        · subst e; exact .inr h2
        · exact .inl ⟨k, by omega, h2, h3⟩
    · rename_i h
      rw [cvT_mem]
      constructor
      · rintro ⟨k, h1, h2, h3⟩
        exact ⟨k, by omega, h2, h3⟩
      · rintro ⟨k, h1, h2, h3⟩
        by_cases e : k = n
        · subst e; exact absurd (hc.2 h3) h
        · exact ⟨k, by omega, h2, h3⟩
theorem cvT_congr {g : List Int} {wd : Int} {T S : List Tw} {rise far : Int} : ∀ {n : Nat}, (∀ k, k < n → ((∃ t ∈ T, seB g wd t (plI wd k) rise far = true) ↔ ∃ t ∈ S, seB g wd t (plI wd k) rise far = true)) → cvT 1 g wd T rise far n = cvT 1 g wd S rise far n
  | 0, _ => rfl
  | n + 1, h => by
    have ih : cvT 1 g wd T rise far n = cvT 1 g wd S rise far n := cvT_congr fun k hk => h k (by omega)
    have h1 := h n (by omega)
    rw [← one_le_count (f := fun t => seB g wd t (plI wd n) rise far), ← one_le_count (f := fun t => seB g wd t (plI wd n) rise far)] at h1
    rw [cvT, cvT, ih]
    by_cases e : (1 : Int) ≤ ((T.countP fun t => seB g wd t (plI wd n) rise far : Nat) : Int)
    · rw [if_pos e, if_pos (h1.1 e)]
    · rw [if_neg e, if_neg fun h => e (h1.2 h)]
theorem seB_far {g : List Int} {wd : Int} {t : Tw} {p : Pl} {rise fa fb : Int} (h0 : 0 ≤ fa) (h1 : fa ≤ fb) (h : seB g wd t p rise fa = true) : seB g wd t p rise fb = true := by
  unfold seB nrB at h ⊢
  simp only [Bool.and_eq_true, decide_eq_true_eq] at h ⊢
  exact ⟨Int.le_trans h.1 (Int.mul_le_mul h1 h1 h0 (by omega)), h.2⟩
theorem cvT_far {g : List Int} {wd : Int} {T : List Tw} {rise fa fb : Int} {n : Nat} (h0 : 0 ≤ fa) (h1 : fa ≤ fb) : ∀ p ∈ cvT 1 g wd T rise fa n, p ∈ cvT 1 g wd T rise fb n := fun p hp => by
  obtain ⟨k, a, b, t, ht, hs⟩ := cvT_mem.1 hp
  exact cvT_mem.2 ⟨k, a, b, t, ht, seB_far h0 h1 hs⟩
theorem cvT_less {g : List Int} {wd : Int} {T : List Tw} {rise far : Int} {n : Nat} (P : Tw → Bool) : ∀ p ∈ cvT 1 g wd (T.filter P) rise far n, p ∈ cvT 1 g wd T rise far n := fun p hp => by
  obtain ⟨k, a, b, t, ht, hs⟩ := cvT_mem.1 hp
  exact cvT_mem.2 ⟨k, a, b, t, (List.mem_filter.1 ht).1, hs⟩
theorem ck_filter {wd hg : Int} {g : List Int} {T : List Tw} {Z : List Hz} (P : Tw → Bool) (h : ckE wd hg g T Z = 0) : ckE wd hg g (T.filter P) Z = 0 := by
  obtain ⟨a, b, c, d, e, f⟩ := ckE_ok h
  have hlen := List.length_filter_le P T
  have ht : tgE wd hg [] (T.filter P) = 0 := tgE_of (fun t ht => d t (List.mem_filter.1 ht).1) ((List.filter_sublist.map Tw.id).nodup e) (fun t _ u hu => by cases hu)
  unfold ckE
  rw [if_pos a, if_pos ⟨by omega, c⟩, if_pos ht, if_pos f]
theorem cv_filter {wd hg : Int} {g : List Int} {T : List Tw} {Z : List Hz} {rise tick : Int} (P : Tw → Bool) (h : cvE wd hg g T Z rise tick = 0) : cvE wd hg g (T.filter P) Z rise tick = 0 := by
  have hck := (cvE_ok h).1
  unfold cvE at h ⊢
  rw [if_pos hck] at h
  rw [if_pos (ck_filter P hck)]
  exact h
theorem cw_one {wd hg : Int} {g : List Int} {T : List Tw} {Z : List Hz} {rise tick : Int} : cwE wd hg g T Z rise tick 1 = cvE wd hg g T Z rise tick := by
  unfold cwE
  split
  · rename_i h; rw [h]; rfl
  · rfl
theorem fe_cv {wd hg : Int} {g : List Int} {T : List Tw} {Z : List Hz} {rise tick : Int} (h : cvE wd hg g T Z rise tick = 0) : feE wd hg g T Z tick = 0 ∧ feN wd hg g T Z tick = faO Z tick := by
  have hck := (cvE_ok h).1
  unfold cvE at h
  rw [if_pos hck] at h
  have ht : wiB tick 0 1048576 = true := by
    by_cases e : (wiB rise 0 200 && wiB tick 0 1048576) = true
    · simp only [Bool.and_eq_true] at e; exact e.2
    · rw [if_neg e] at h; cases h
  unfold feE feN
  rw [if_pos hck, if_pos hck, if_pos ht, if_pos ht]
  exact ⟨rfl, rfl⟩
theorem fw_same {g : List Int} {wd : Int} {T : List Tw} {rise far : Int} {n : Nat} {R : List Int} (h : FwR g wd T rise far n R) : cvT 1 g wd (T.filter fun t => decide (t.id ∈ R)) rise far n = cvT 1 g wd T rise far n := by
  refine cvT_congr fun k hk => ⟨fun ⟨t, ht, hs⟩ => ⟨t, (List.mem_filter.1 ht).1, hs⟩, fun ⟨t, ht, hs⟩ => ?_⟩
  obtain ⟨u, hu, hid, hsu⟩ := h.2.1 k hk t ht hs
  exact ⟨u, List.mem_filter.2 ⟨hu, by simpa using hid⟩, hsu⟩
theorem fw_less {g : List Int} {wd : Int} {T : List Tw} {rise far : Int} {n : Nat} {R : List Int} {x : Int} (h : FwR g wd T rise far n R) (hx : x ∈ R) : ¬ cvT 1 g wd ((T.filter fun t => decide (t.id ∈ R)).filter fun t => t.id != x) rise far n = cvT 1 g wd T rise far n := fun he => by
  have hC : CovR g wd T rise far n (R.filter fun y => y != x) := fun k hk t ht hs => by
    have hm : plI wd k ∈ cvT 1 g wd T rise far n := cvT_mem.2 ⟨k, hk, rfl, t, ht, hs⟩
    rw [← he] at hm
    obtain ⟨k', hk', hp, u, hu, hsu⟩ := cvT_mem.1 hm
    rw [← hp] at hsu
    obtain ⟨hu1, hu2⟩ := List.mem_filter.1 hu
    obtain ⟨hu3, hu4⟩ := List.mem_filter.1 hu1
    exact ⟨u, hu3, List.mem_filter.2 ⟨by simpa using hu4, hu2⟩, hsu⟩
  have hD : CndR T (R.filter fun y => y != x) := ⟨h.1.1.sublist List.filter_sublist, fun y hy => h.1.2 y (List.mem_filter.1 hy).1⟩
  have hb := h.2.2 _ hD hC
  have hlt : (R.filter fun y => y != x).length < R.length := by
    rw [List.length_filter_lt_length_iff_exists]
    exact ⟨x, hx, by simp⟩
  unfold bfB at hb
  rw [if_neg (by omega), decide_eq_true hlt] at hb
  cases hb
theorem ok_plI {wd : Int} {k : Nat} (h0 : 0 ≤ wd) (hk : k ≤ 1000000) : okPl (plI wd k) := by
  obtain ⟨m, rfl⟩ := Int.eq_ofNat_of_zero_le h0
  have h1 := Nat.mod_le k m
  have h2 := Nat.div_le_self k m
  unfold okPl plI
  simp only
  rw [← Int.natCast_emod, ← Int.natCast_ediv]
  obtain ⟨a, ha⟩ : ∃ a, k % m = a := ⟨_, rfl⟩
  obtain ⟨b, hb⟩ : ∃ b, k / m = b := ⟨_, rfl⟩
  rw [ha] at h1 ⊢
  rw [hb] at h2 ⊢
  exact key_pl ⟨by omega, by omega⟩ ⟨by omega, by omega⟩
theorem cvT_ok {g : List Int} {wd : Int} {T : List Tw} {rise far : Int} {n : Nat} (h0 : 0 ≤ wd) (hn : n ≤ 1000000) : ∀ p ∈ cvT 1 g wd T rise far n, okPl p := fun p hp => by
  obtain ⟨k, a, b, _⟩ := cvT_mem.1 hp
  rw [b]
  exact ok_plI h0 (by omega)
theorem cov_one (wd hg : Int) (o tv hz : Value) (g : List Int) (T : List Tw) (Z : List Hz) (rise tick : Int) (w : World) (ho : INRow w o g) (hl : g.length ≤ 9223372036854775807) (ht : TwRow w tv T) (htl : T.length ≤ 9223372036854775807) (hh : HzRow w hz Z) (hhl : Z.length ≤ 9223372036854775807) (hcv : cvE wd hg g T Z rise tick = 0) :
    Calls Try.prog 9 #[coV wd hg o tv hz, .int .i64 rise, .int .i64 tick, .int .i64 1] w fun e w' => ∃ v, e = .returned (.tuple #[v, .int .i64 0]) ∧ Below w.heap.size w w' ∧ PlRow w' v (cvT 1 g wd T rise (faO Z tick) g.length) := by
  refine (Covered_all wd hg o tv hz g T Z rise tick 1 w ho hl ht htl hh hhl).mono fun e w' h => ?_
  obtain ⟨v, he, hb, _, h2⟩ := h
  rw [cw_one, hcv] at he h2
  exact ⟨v, he, hb, PlRow.of_own (h2 rfl)⟩
set_option maxRecDepth 100000 in
set_option maxHeartbeats 16000000 in
theorem together_card (wd hg : Int) (o tv hz : Value) (g : List Int) (T : List Tw) (Z : List Hz) (rise tick tock u : Int) (w : World) (ho : INRow w o g) (hl : g.length ≤ 9223372036854775807) (ht : TwRow w tv T) (htl : T.length ≤ 9223372036854775807) (hh : HzRow w hz Z) (hhl : Z.length ≤ 9223372036854775807) (_ : -9223372036854775808 ≤ rise ∧ rise ≤ 9223372036854775807) (_ : -9223372036854775808 ≤ tick ∧ tick ≤ 9223372036854775807) (_ : -9223372036854775808 ≤ tock ∧ tock ≤ 9223372036854775807) (hu : 0 ≤ u ∧ u ≤ 255) :
    Calls Try.prog 4 #[coV wd hg o tv hz, .int .i64 rise, .int .i64 tick, .int .i64 tock, .int .u8 u] w fun e w' => e = .returned (.bool true) ∧ Below w.heap.size w w' := by
  have HFW := Lib.hid (fun w' (h : Below w.heap.size w w') => few_any wd hg o tv hz g T Z w' (ho.keep h) (ht.keep h) (hh.keep h))
  have H1 := Lib.hid (fun w' (h : Below w.heap.size w w') => (Covered_all wd hg o tv hz g T Z rise tick 1 w' (ho.keep h) hl (ht.keep h) htl (hh.keep h) hhl).mono fun e w'' ⟨v, he, hb, h1, h2⟩ => (by
    rw [cw_one] at he h2
    exact ⟨v, he, hb, fun hE => PlRow.of_own (h2 hE)⟩ : ∃ v, e = Ending.returned (.tuple #[v, .int .i64 (cvE wd hg g T Z rise tick)]) ∧ Below w'.heap.size w' w'' ∧ (cvE wd hg g T Z rise tick = 0 → PlRow w'' v (cvT 1 g wd T rise (faO Z tick) g.length))))
  have H2 := Lib.hid (fun w' (h : Below w.heap.size w w') => (Covered_all wd hg o tv hz g T Z rise tock 1 w' (ho.keep h) hl (ht.keep h) htl (hh.keep h) hhl).mono fun e w'' ⟨v, he, hb, h1, h2⟩ => (by
    rw [cw_one] at he h2
    exact ⟨v, he, hb, fun hE => PlRow.of_own (h2 hE)⟩ : ∃ v, e = Ending.returned (.tuple #[v, .int .i64 (cvE wd hg g T Z rise tock)]) ∧ Below w'.heap.size w' w'' ∧ (cvE wd hg g T Z rise tock = 0 → PlRow w'' v (cvT 1 g wd T rise (faO Z tock) g.length))))
  have H3 := Lib.hid (fun (h1 : cvE wd hg g T Z rise tick = 0) w' (h : Below w.heap.size w w') => by have h2 := Far_any wd hg o tv hz g T Z tick w' (ho.keep h) hl (ht.keep h) htl (hh.keep h) hhl; rw [(fe_cv h1).1, (fe_cv h1).2] at h2; exact h2)
  have H4 := Lib.hid (fun (h1 : cvE wd hg g T Z rise tock = 0) w' (h : Below w.heap.size w w') => by have h2 := Far_any wd hg o tv hz g T Z tock w' (ho.keep h) hl (ht.keep h) htl (hh.keep h) hhl; rw [(fe_cv h1).1, (fe_cv h1).2] at h2; exact h2)
  have H5 := Lib.hid (fun (h1 : cvE wd hg g T Z rise tick = 0) w' (h : Below w.heap.size w w') => Fewest_ok wd hg o tv hz g T Z rise tick w' (ho.keep h) hl (ht.keep h) htl (hh.keep h) hhl h1)
  have HCF := Lib.hid (fun (S : List Tw) (hS : cvE wd hg g S Z rise tick = 0) w' (h : Below w.heap.size w w') (a : Option Addr) (n c : Nat) (htr : TwRow w' (.slice a n c) S) => cov_one wd hg o (.slice a n c) hz g S Z rise tick w' (ho.keep h) hl htr (by have h1 := (ckE_ok (cvE_ok hS).1).2.1; omega) (hh.keep h) hhl hS)
  have HKF := Lib.hid (fun (h1 : cvE wd hg g T Z rise tick = 0) (P : Tw → Bool) => And.intro (cv_filter P h1) (fun Q : Tw → Bool => cv_filter Q (cv_filter P h1)))
  have HFL := Lib.hid (fun (h1 : cvE wd hg g T Z rise tick = 0) => (ckE_ok (cvE_ok h1).1))
  have HTR := Lib.hid ht
  obtain ⟨oa, oc, rfl, _⟩ := ho.form
  obtain ⟨ta, tc, rfl, htc⟩ := ht.form
  obtain ⟨za, zc, rfl, _⟩ := hh.form
  have HTC := Lib.hid htc
  have HA : Hid (∀ W', Below (w.alloc (.cells #[.int .i64 wd, .int .i64 hg, .slice oa g.length oc, .slice ta T.length tc, .slice za Z.length zc] 28)).heap.size (w.alloc (.cells #[.int .i64 wd, .int .i64 hg, .slice oa g.length oc, .slice ta T.length tc, .slice za Z.length zc] 28)) W' → W'.cell? ⟨w.heap.size, 0, none⟩ = some (.int .i64 wd) ∧ W'.cell? ⟨w.heap.size, 1, none⟩ = some (.int .i64 hg) ∧ W'.cell? ⟨w.heap.size, 2, none⟩ = some (.slice oa g.length oc) ∧ W'.cell? ⟨w.heap.size, 3, none⟩ = some (.slice ta T.length tc) ∧ W'.cell? ⟨w.heap.size, 4, none⟩ = some (.slice za Z.length zc) ∧ Below w.heap.size w W') := Lib.hid (fun W' h => by
    have hA := (Below.refl w.heap.size w).alloc (Nat.le_refl _) (.cells #[.int .i64 wd, .int .i64 hg, .slice oa g.length oc, .slice ta T.length tc, .slice za Z.length zc] 28)
    have a := (h.block _ (Array.getElem?_eq_some_iff.1 (heap_alloc_new w (.cells #[.int .i64 wd, .int .i64 hg, .slice oa g.length oc, .slice ta T.length tc, .slice za Z.length zc] 28))).1).trans (heap_alloc_new w (.cells #[.int .i64 wd, .int .i64 hg, .slice oa g.length oc, .slice ta T.length tc, .slice za Z.length zc] 28))
    exact ⟨cellH a 0, cellH a 1, cellH a 2, cellH a 3, cellH a 4, hA.trans (h.mono hA.size)⟩)
  obtain ⟨W1, hW1⟩ : ∃ X, w.alloc (.cells #[.int .i64 wd, .int .i64 hg, .slice oa g.length oc, .slice ta T.length tc, .slice za Z.length zc] 28) = X := ⟨_, rfl⟩
  rw [hW1] at HA
  have HW1 := Lib.hid hW1
  have HRD := HA
  have HB0 := Lib.hid (HA.out W1 (Below.refl _ _)).2.2.2.2.2
  obtain ⟨fb, hfb⟩ : ∃ b, fewB g.length T.length Z.length = b := ⟨_, rfl⟩
  rw [hfb] at HFW
  obtain ⟨E1, hE1⟩ : ∃ z, cvE wd hg g T Z rise tick = z := ⟨_, rfl⟩
  obtain ⟨E2, hE2⟩ : ∃ z, cvE wd hg g T Z rise tock = z := ⟨_, rfl⟩
  rw [hE1] at H1 H3 H5 HKF HFL
  rw [hE2] at H2 H4
  clear hW1 HA ho ht hh hl htl hhl hfb hE1 hE2 htc
  unfold coV at HFW H1 H2 H3 H4 H5 HCF
  unfold coV
  go_enter Try.func4, Try.ntmps4
  go_wp2_with fail
  rw [HW1.out]
  refine (head_any W1).mono ?_
  rintro e w2 ⟨rfl, hb⟩
  have HD2 := Lib.hid hb
  have HB2 := Lib.hid (HB0.out.trans (hb.mono HB0.out.size))
  clear hb
  obtain ⟨p0, p1, p2, p3, p4, _⟩ := HRD.out w2 HD2.out
  go_wp2_with fail
  refine (HFW.out _ HB2.out).mono ?_
  rintro e w3 ⟨rfl, hb⟩
  have HD3 := Lib.hid (HD2.out.trans (hb.mono HD2.out.size))
  have HB3 := Lib.hid (HB2.out.trans (hb.mono HB2.out.size))
  clear hb p0 p1 p2 p3 p4
  cases fb
  · go_wp2_with fail
    go_ret
    exact ⟨rfl, HB3.out⟩
  obtain ⟨p0, p1, p2, p3, p4, _⟩ := HRD.out _ HD3.out
  go_wp2_with fail
  refine (H1.out _ HB3.out).mono ?_
  rintro e w4 ⟨v4, rfl, hb, hr4⟩
  have HD4 := Lib.hid (HD3.out.trans (hb.mono HD3.out.size))
  have HB4 := Lib.hid (HB3.out.trans (hb.mono HB3.out.size))
  have HR4 := Lib.hid hr4
  clear hb hr4 p0 p1 p2 p3 p4
  obtain ⟨p0, p1, p2, p3, p4, _⟩ := HRD.out _ HD4.out
  go_wp2_with fail
  refine (H2.out _ HB4.out).mono ?_
  rintro e w5 ⟨v5, rfl, hb, hr5⟩
  have HD5 := Lib.hid (HD4.out.trans (hb.mono HD4.out.size))
  have HB5 := Lib.hid (HB4.out.trans (hb.mono HB4.out.size))
  have HR5 := Lib.hid hr5
  have HK4 := Lib.hid hb
  clear hb hr5 p0 p1 p2 p3 p4
  by_cases hE1 : E1 = 0
  case neg =>
    have qe : (E1 != 0) = true := by simpa using hE1
    go_wp2_with fail
    go_ret
    exact ⟨rfl, HB5.out⟩
  subst hE1
  by_cases hE2 : E2 = 0
  case neg =>
    have qe : (E2 != 0) = true := by simpa using hE2
    go_wp2_with fail
    go_ret
    exact ⟨rfl, HB5.out⟩
  subst hE2
  have HP4 := Lib.hid ((HR4.out rfl).keep HK4.out)
  have HP5 := Lib.hid (HR5.out rfl)
  have H3' := Lib.hid (H3.out rfl)
  have H4' := Lib.hid (H4.out rfl)
  have H5' := Lib.hid (H5.out rfl)
  have HCF' := HCF
  have HKF' := Lib.hid (HKF.out rfl)
  obtain ⟨hm, hn12, hz60, _, hnd, hzb⟩ := HFL.out rfl
  have HFA := Lib.hid (faO_bd (t := tick) hzb)
  have HN12 := Lib.hid hn12
  have HND := Lib.hid hnd
  obtain ⟨a1, a2, a3, a4, a5, _⟩ := vmB_ok hm
  have hgm : g.length ≤ 2401 := by
    have h1 : wd * hg ≤ 49 * 49 := Int.mul_le_mul a2 a4 (by omega) (by omega)
    omega
  obtain ⟨fa, hfa⟩ : ∃ z, faO Z tick = z := ⟨_, rfl⟩
  obtain ⟨fc, hfc⟩ : ∃ z, faO Z tock = z := ⟨_, rfl⟩
  rw [hfa] at H3' H5' HCF' HFA HP4
  rw [hfc] at H4' HP5
  obtain ⟨l1, hl1⟩ : ∃ l, cvT 1 g wd T rise fa g.length = l := ⟨_, rfl⟩
  obtain ⟨l2, hl2⟩ : ∃ l, cvT 1 g wd T rise fc g.length = l := ⟨_, rfl⟩
  have HLL : Hid (l1.length ≤ 1000000 ∧ l2.length ≤ 1000000) := Lib.hid (by
    have h1 := cvT_len 1 g wd T rise fa g.length
    have h2 := cvT_len 1 g wd T rise fc g.length
    rw [hl1] at h1; rw [hl2] at h2
    omega)
  have HFLN : Hid (∀ S, (cvT 1 g wd S rise fa g.length).length ≤ 1000000) := Lib.hid (fun S => by
    have h1 := cvT_len 1 g wd S rise fa g.length
    omega)
  have HOK : Hid ((∀ p ∈ l1, okPl p) ∧ ∀ p ∈ l2, okPl p) := Lib.hid ⟨by rw [← hl1]; exact cvT_ok (by omega) (by omega), by rw [← hl2]; exact cvT_ok (by omega) (by omega)⟩
  have HSF : Hid (fa ≤ fc → ∀ p ∈ l1, p ∈ l2) := Lib.hid (fun h => by rw [← hl1, ← hl2]; exact cvT_far HFA.out.1 h)
  have HSL : Hid (∀ P : Tw → Bool, ∀ p ∈ cvT 1 g wd (T.filter P) rise fa g.length, p ∈ l1) := Lib.hid (fun P => by rw [← hl1]; exact cvT_less P)
  have HFS : Hid (∀ R, FwR g wd T rise fa g.length R → cvT 1 g wd (T.filter fun t => decide (t.id ∈ R)) rise fa g.length = l1) := Lib.hid (fun R h => by rw [← hl1]; exact fw_same h)
  have HFL2 : Hid (∀ R x, FwR g wd T rise fa g.length R → x ∈ R → ¬ cvT 1 g wd ((T.filter fun t => decide (t.id ∈ R)).filter fun t => t.id != x) rise fa g.length = l1) := Lib.hid (fun R x h hx => by rw [← hl1]; exact fw_less h hx)
  rw [hl1] at HP4
  rw [hl2] at HP5
  have HTL : Hid (T.length ≤ 100) := Lib.hid (by omega)
  have HWO := Lib.hid (fun (wB w' : World) (h0 : Below w.heap.size w wB) (h : Below wB.heap.size wB w') (id : Int) => (lwithout_any wd hg oa za g.length oc Z.length zc (.slice ta T.length tc) T id w' (HTR.out.keep (h0.trans (h.mono h0.size))) HTL.out).mono fun e w'' ⟨a, n, c, he, hb, hr⟩ => (⟨a, n, c, he, h.trans (hb.mono h.size), hr⟩ : ∃ a n c, e = Ending.returned (coV wd hg (.slice oa g.length oc) (.slice a n c) (.slice za Z.length zc)) ∧ Below wB.heap.size wB w'' ∧ TwRow w'' (.slice a n c) (T.filter fun t => t.id != id)))
  have HCB := Lib.hid (fun (wB w' : World) (h0 : Below w.heap.size w wB) (h : Below wB.heap.size wB w') (S : List Tw) (hS : cvE wd hg g S Z rise tick = 0) (a : Option Addr) (n c : Nat) (htr : TwRow w' (.slice a n c) S) => (HCF'.out S hS w' (h0.trans (h.mono h0.size)) a n c htr).mono fun e w'' ⟨v, he, hb, hr⟩ => (⟨v, he, h.trans (hb.mono h.size), hr⟩ : ∃ v, e = Ending.returned (.tuple #[v, .int .i64 0]) ∧ Below wB.heap.size wB w'' ∧ PlRow w'' v (cvT 1 g wd S rise fa g.length)))
  unfold coV at HWO
  clear hm hn12 hz60 hnd hzb a1 a2 a3 a4 a5 hgm hfa hfc hl1 hl2 H1 H2 H3 H4 H5 HCF HKF HFL HR4 HR5 HK4 HCF'
  obtain ⟨p0, p1, p2, p3, p4, _⟩ := HRD.out _ HD5.out
  go_wp2_with fail
  refine (H3'.out _ HB5.out).mono ?_
  rintro e w6 ⟨rfl, hb⟩
  have HD6 := Lib.hid (HD5.out.trans (hb.mono HD5.out.size))
  have HB6 := Lib.hid (HB5.out.trans (hb.mono HB5.out.size))
  have HP4b := Lib.hid (HP4.out.keep hb)
  have HP5b := Lib.hid (HP5.out.keep hb)
  clear hb p0 p1 p2 p3 p4
  obtain ⟨p0, p1, p2, p3, p4, _⟩ := HRD.out _ HD6.out
  go_wp2_with fail
  refine (H4'.out _ HB6.out).mono ?_
  rintro e w7 ⟨rfl, hb⟩
  have HD7 := Lib.hid (HD6.out.trans (hb.mono HD6.out.size))
  have HB7 := Lib.hid (HB6.out.trans (hb.mono HB6.out.size))
  have HP4c := Lib.hid (HP4b.out.keep hb)
  have HP5c := Lib.hid (HP5b.out.keep hb)
  clear hb p0 p1 p2 p3 p4
  by_cases hmn : fa ≤ fc
  · obtain ⟨p0, p1, p2, p3, p4, _⟩ := HRD.out _ HD7.out
    have HWI := Lib.hid (lwithin_any v4 v5 l1 l2 w7 HP4c.out HP5c.out HLL.out.1 HLL.out.2 HOK.out.2 (HSF.out hmn))
    go_wp2_with fail
    refine HWI.out.mono ?_
    rintro e w8 ⟨rfl, hb⟩
    have HD8 := Lib.hid (HD7.out.trans (hb.mono HD7.out.size))
    have HB8 := Lib.hid (HB7.out.trans (hb.mono HB7.out.size))
    have HP8 := Lib.hid (HP4c.out.keep hb)
    clear hb p0 p1 p2 p3 p4 HWI HP4 HP5 HP4b HP5b HP4c HP5c hmn
    by_cases hT0 : T.length = 0
    · have hz0 : ¬ ((0 : Int) < (T.length : Int)) := by omega
      clear hT0
      obtain ⟨p0, p1, p2, p3, p4, _⟩ := HRD.out _ HD8.out
      go_wp2_with fail
      clear hz0
      refine (H5'.out _ HB8.out).mono ?_
      rintro e wf ⟨vf, R, rfl, hb, hrR, hFw⟩
      have HDf := Lib.hid (HD8.out.trans (hb.mono HD8.out.size))
      have HBf := Lib.hid (HB8.out.trans (hb.mono HB8.out.size))
      have HPf := Lib.hid (HP8.out.keep hb)
      have HFW2 := Lib.hid hFw
      have HRR := Lib.hid hrR
      have HRL : Hid (R.length ≤ 1000) := Lib.hid (by
        obtain ⟨L, hL⟩ := ord_exists HND.out
        have h1 := cnd_len hL hFw.1
        have h2 := HN12.out
        omega)
      have HON := Lib.hid (lonly_any wd hg oa za g.length oc Z.length zc (.slice ta T.length tc) vf T R wf (HTR.out.keep HBf.out) HTL.out hrR HRL.out hFw.1.1)
      unfold coV at HON
      clear hb hrR hFw p0 p1 p2 p3 p4
      obtain ⟨p0, p1, p2, p3, p4, _⟩ := HRD.out _ HDf.out
      go_wp2_with fail
      refine HON.out.mono ?_
      rintro e wo ⟨a2, n2, c2, rfl, hb, htw⟩
      have HDo := Lib.hid (HDf.out.trans (hb.mono HDf.out.size))
      have HBo := Lib.hid (HBf.out.trans (hb.mono HBf.out.size))
      have hY := (Below.refl _ wo).alloc (Nat.le_refl _) (.cells #[.int .i64 wd, .int .i64 hg, .slice oa g.length oc, .slice a2 n2 c2, .slice za Z.length zc] 28)
      have HPo := Lib.hid ((HPf.out.keep hb).keep hY)
      have HRo := Lib.hid ((HRR.out.keep hb).keep hY)
      have HTo := Lib.hid (htw.keep hY)
      have HQ : Hid ((wo.alloc (.cells #[.int .i64 wd, .int .i64 hg, .slice oa g.length oc, .slice a2 n2 c2, .slice za Z.length zc] 28)).heap[wo.heap.size]? = some (.cells #[.int .i64 wd, .int .i64 hg, .slice oa g.length oc, .slice a2 n2 c2, .slice za Z.length zc] 28 (0, 0))) := Lib.hid (heap_alloc_new _ _)
      have HDY := Lib.hid (HDo.out.trans (hY.mono HDo.out.size))
      have HBY := Lib.hid (HBo.out.trans (hY.mono HBo.out.size))
      clear hY hb htw p0 p1 p2 p3 p4 HON HPf HRR
      have q0 := cellH HQ.out 0
      have q1 := cellH HQ.out 1
      have q2 := cellH HQ.out 2
      have q3 := cellH HQ.out 3
      have q4 := cellH HQ.out 4
      simp only [List.getElem?_toArray, List.getElem?_cons_zero, List.getElem?_cons_succ] at q0 q1 q2 q3 q4
      go_wp2_with fail
      obtain ⟨Y, hY⟩ : ∃ Y, wo.alloc (.cells #[.int .i64 wd, .int .i64 hg, .slice oa g.length oc, .slice a2 n2 c2, .slice za Z.length zc] 28) = Y := ⟨_, rfl⟩
      rw [hY] at HPo HRo HTo HQ HDY HBY ⊢
      obtain ⟨D, hD⟩ : ∃ s, wo.heap.size = s := ⟨_, rfl⟩
      rw [hD] at HQ ⊢
      clear hY hD q0 q1 q2 q3 q4
      refine (HCB.out Y Y HBY.out (Below.refl _ _) _ (HKF'.out (fun t => decide (t.id ∈ R))).1 a2 n2 c2 HTo.out).mono ?_
      rintro e wx ⟨vx, rfl, hb, hrx⟩
      rw [HFS.out R HFW2.out] at hrx
      have HBx := Lib.hid (HBY.out.trans (hb.mono HBY.out.size))
      have HPx := Lib.hid (HPo.out.keep hb)
      have HRx := Lib.hid (HRo.out.keep hb)
      have HTx := Lib.hid (HTo.out.keep hb)
      have HQx := Lib.hid ((hb.block _ (Array.getElem?_eq_some_iff.1 HQ.out).1).trans HQ.out)
      have HPL := Lib.hid (lplaces_any vx v4 l1 l1 wx hrx HPx.out HLL.out.1 HLL.out.1)
      rw [decide_eq_true (rfl : l1 = l1)] at HPL
      clear hb hrx HPo HRo HTo HQ
      go_wp2_with fail
      refine HPL.out.mono ?_
      rintro e wl ⟨rfl, hb⟩
      have HBl := Lib.hid (HBx.out.trans (hb.mono HBx.out.size))
      have HPl := Lib.hid (HPx.out.keep hb)
      have hrl := HRx.out.keep hb
      have HTl := Lib.hid (HTx.out.keep hb)
      have HQl := Lib.hid ((hb.block _ (Array.getElem?_eq_some_iff.1 HQx.out).1).trans HQx.out)
      obtain ⟨ra, rc, rfl, hrc⟩ := hrl.form
      have HRC := Lib.hid hrc
      clear hb hrl hrc HPx HRx HTx HQx HPL
      go_wp2_with fail
      go_loopw [28] (fun i wr => ∃ (k : Nat), k ≤ R.length ∧ i = .int .i64 k ∧ Hid (Below wl.heap.size wl wr)) (fun i _ => R.length - (intOf i).toNat)
      case atStart => exact ⟨0, Nat.zero_le _, rfl, Lib.hid (Below.refl _ _)⟩
      case round =>
        obtain ⟨j, hj, rfl, hB⟩ := hrel
        by_cases hjl : j < R.length
        · obtain ⟨rb, rf, rfl, hrb, c0⟩ := HRC.out j hjl
          have HJL := Lib.hid hjl
          have hji : (j : Int) < R.length := by omega
          have hj0 : (0 : Int) ≤ j := by omega
          have hxm : R.getD j 0 ∈ R := by rw [List.getD_eq_getElem?_getD, List.getElem?_eq_getElem hjl]; exact List.getElem_mem _
          obtain ⟨x, hx⟩ : ∃ x, R.getD j 0 = x := ⟨_, rfl⟩
          rw [hx] at c0 hxm
          have HXM := Lib.hid hxm
          have HBr := Lib.hid (HBl.out.trans (hB.out.mono HBl.out.size))
          have HKP2 : Hid (∀ w', Below wr.heap.size wr w' → Below wr.heap.size wr w' ∧ w'.cell? ⟨D, 0, none⟩ = some (.int .i64 wd) ∧ w'.cell? ⟨D, 1, none⟩ = some (.int .i64 hg) ∧ w'.cell? ⟨D, 2, none⟩ = some (.slice oa g.length oc) ∧ w'.cell? ⟨D, 3, none⟩ = some (.slice a2 n2 c2) ∧ w'.cell? ⟨D, 4, none⟩ = some (.slice za Z.length zc) ∧ w'.cell? ⟨rb, rf + j, none⟩ = some (.int .i64 x)) := Lib.hid (fun w' h => by
            have hlw := hB.out.trans (h.mono hB.out.size)
            have a := (hlw.block _ (Array.getElem?_eq_some_iff.1 HQl.out).1).trans HQl.out
            exact ⟨h, cellH a 0, cellH a 1, cellH a 2, cellH a 3, cellH a 4, (hlw.cell (p := ⟨rb, _, none⟩) hrb).trans c0⟩)
          have HW3 := Lib.hid (fun (w' : World) (h : Below wr.heap.size wr w') => (lwithout_any wd hg oa za g.length oc Z.length zc (.slice a2 n2 c2) (T.filter fun t => decide (t.id ∈ R)) x w' (HTl.out.keep (hB.out.trans (h.mono hB.out.size))) (Nat.le_trans (List.length_filter_le _ _) HTL.out)).mono fun e w'' ⟨a, n, c, he, hb, hr⟩ => (⟨a, n, c, he, h.trans (hb.mono h.size), hr⟩ : ∃ a n c, e = Ending.returned (coV wd hg (.slice oa g.length oc) (.slice a n c) (.slice za Z.length zc)) ∧ Below wr.heap.size wr w'' ∧ TwRow w'' (.slice a n c) ((T.filter fun t : Tw => decide (t.id ∈ R)).filter fun t : Tw => t.id != x)))
          have HC3 := Lib.hid (fun w' h a n c htr => HCB.out wr w' HBr.out h _ ((HKF'.out (fun t : Tw => decide (t.id ∈ R))).2 (fun t : Tw => t.id != x)) a n c htr)
          unfold coV at HW3
          obtain ⟨_, q0, q1, q2, q3, q4, e0⟩ := HKP2.out wr (Below.refl _ _)
          clear hx hrb c0 hxm
          go_wp2_with fail
          go_region_held3 (fun w' => Below wr.heap.size wr w' ∧ w'.cell? ⟨D, 0, none⟩ = some (.int .i64 wd) ∧ w'.cell? ⟨D, 1, none⟩ = some (.int .i64 hg) ∧ w'.cell? ⟨D, 2, none⟩ = some (.slice oa g.length oc) ∧ w'.cell? ⟨D, 3, none⟩ = some (.slice a2 n2 c2) ∧ w'.cell? ⟨D, 4, none⟩ = some (.slice za Z.length zc) ∧ w'.cell? ⟨rb, rf + j, none⟩ = some (.int .i64 x))
            (first | exact HKP2.out _ ((Below.refl _ _).drew) | exact HKP2.out _ (by assumption))
            (first | (go_at_call 12; go_split_ands; refine (HW3.out _ ?_).mono ?_; assumption; rintro e wy ⟨ay, ny, cy, rfl, hby, hry⟩) | (go_at_call 9; go_split_ands; refine (HC3.out _ ?_ _ _ _ ?_).mono ?_; assumption; assumption; rintro e wz ⟨vz, rfl, hbz, hrz⟩))
          have HBz := Lib.hid (hB.out.trans (hbz.mono hB.out.size))
          have HPz := Lib.hid (HPl.out.keep HBz.out)
          have HPL := Lib.hid (lplaces_any vz v4 _ l1 wz hrz HPz.out (HFLN.out _) HLL.out.1)
          rw [decide_eq_false (HFL2.out R x HFW2.out HXM.out)] at HPL
          clear hbz hrz hby hry HW3 HC3 q0 q1 q2 q3 q4 e0 HKP2
          go_wp2_with fail
          refine HPL.out.mono ?_
          rintro e wn ⟨rfl, hb⟩
          have HBn := Lib.hid (HBz.out.trans (hb.mono HBz.out.size))
          clear hb HPL
          have hjl2 := HJL.out
          have hrl2 := HRL.out
          have hj1 : (j : Int) < R.length := by omega
          have hj2 : (R.length : Int) ≤ 1000 := by omega
          go_wp2_with fail
          go_roundw
          case rel => exact ⟨j + 1, HJL.out, by go_num, HBn⟩
          case measure => have hjl2 := HJL.out; simp [intOf]; omega
        · obtain rfl : j = R.length := by omega
          go_wp2_with fail
          go_ret
          exact ⟨rfl, HBl.out.trans (hB.out.mono HBl.out.size)⟩
    · have hn0 : 0 < T.length := by omega
      obtain ⟨un, rfl⟩ := Int.eq_ofNat_of_zero_le hu.1
      have hun := hu.2
      obtain ⟨k, hk⟩ : ∃ k, un % T.length = k := ⟨_, rfl⟩
      have hkl : k < T.length := by rw [← hk]; exact Nat.mod_lt _ hn0
      obtain ⟨tb, tf, rfl, htb, d0, _, _, _⟩ := HTC.out k hkl
      obtain ⟨ti, hti⟩ : ∃ z, (T.getD k .nil).id = z := ⟨_, rfl⟩
      rw [hti] at d0
      have HTI : Hid (∀ W', Below w.heap.size w W' → W'.cell? ⟨tb, tf + k * 4, none⟩ = some (.int .i64 ti)) := Lib.hid (fun W' h => (h.cell (p := ⟨tb, _, none⟩) htb).trans d0)
      have HKP : Hid (∀ w', Below w8.heap.size w8 w' → Below w8.heap.size w8 w' ∧ w'.cell? ⟨w.heap.size, 0, none⟩ = some (.int .i64 wd) ∧ w'.cell? ⟨w.heap.size, 1, none⟩ = some (.int .i64 hg) ∧ w'.cell? ⟨w.heap.size, 2, none⟩ = some (.slice oa g.length oc) ∧ w'.cell? ⟨w.heap.size, 3, none⟩ = some (.slice (some ⟨tb, tf, none⟩) T.length tc) ∧ w'.cell? ⟨w.heap.size, 4, none⟩ = some (.slice za Z.length zc) ∧ w'.cell? ⟨tb, tf + k * 4, none⟩ = some (.int .i64 ti)) := Lib.hid (fun w' h => by
        obtain ⟨a, b, c, d, e, f⟩ := HRD.out w' (HD8.out.trans (h.mono HD8.out.size))
        exact ⟨h, a, b, c, d, e, HTI.out w' f⟩)
      have HWO2 := Lib.hid (fun w' h => HWO.out w8 w' HB8.out h ti)
      have HCB2 := Lib.hid (fun w' h a n c htr => HCB.out w8 w' HB8.out h _ (HKF'.out (fun t => t.id != ti)).1 a n c htr)
      have hrm : ((un : Nat) : Int).tmod ((T.length : Nat) : Int) = (k : Int) := by
        rw [Int.tmod_eq_emod_of_nonneg (by omega), ← Int.natCast_emod, hk]
      have hki : (k : Int) < T.length := by omega
      have hk0 : (0 : Int) ≤ k := by omega
      have hnz : ¬ ((T.length : Int) = 0) := by omega
      have hpos : (0 : Int) < (T.length : Int) := by omega
      have hwu : IntKind.i64.wrap ((un : Nat) : Int) = un := IntWalk.i64_in _ (by omega)
      clear hu hun hk d0 hti htb
      obtain ⟨p0, p1, p2, p3, p4, _⟩ := HRD.out _ HD8.out
      go_wp2_with fail
      go_region_held3 (fun w' => Below w8.heap.size w8 w' ∧ w'.cell? ⟨w.heap.size, 0, none⟩ = some (.int .i64 wd) ∧ w'.cell? ⟨w.heap.size, 1, none⟩ = some (.int .i64 hg) ∧ w'.cell? ⟨w.heap.size, 2, none⟩ = some (.slice oa g.length oc) ∧ w'.cell? ⟨w.heap.size, 3, none⟩ = some (.slice (some ⟨tb, tf, none⟩) T.length tc) ∧ w'.cell? ⟨w.heap.size, 4, none⟩ = some (.slice za Z.length zc) ∧ w'.cell? ⟨tb, tf + k * 4, none⟩ = some (.int .i64 ti))
        (first | exact HKP.out _ ((Below.refl _ _).drew) | exact HKP.out _ (by assumption))
        (first | (go_at_call 12; go_split_ands; refine (HWO2.out _ ?_).mono ?_; assumption; rintro e wa ⟨a8, n8, c8, rfl, hba, hra⟩) | (go_at_call 9; go_split_ands; refine (HCB2.out _ ?_ _ _ _ ?_).mono ?_; assumption; assumption; rintro e wb ⟨vb, rfl, hbb, hrb⟩))
      have HDb := Lib.hid (HD8.out.trans (hbb.mono HD8.out.size))
      have HBb := Lib.hid (HB8.out.trans (hbb.mono HB8.out.size))
      have HPb := Lib.hid (HP8.out.keep hbb)
      have HWI3 := Lib.hid (lwithin_any vb v4 _ l1 wb hrb HPb.out (HFLN.out _) HLL.out.1 HOK.out.1 (HSL.out _))
      clear hbb hrb HWO2 HCB2 p0 p1 p2 p3 p4 hrm hki hk0 hnz hpos hwu HKP hba hra
      go_wp2_with fail
      refine HWI3.out.mono ?_
      rintro e wc ⟨rfl, hb⟩
      have HDc := Lib.hid (HDb.out.trans (hb.mono HDb.out.size))
      have HBc := Lib.hid (HBb.out.trans (hb.mono HBb.out.size))
      have HPc := Lib.hid (HPb.out.keep hb)
      clear hb HWI3
      obtain ⟨p0, p1, p2, p3, p4, _⟩ := HRD.out _ HDc.out
      go_wp2_with fail
      refine (H5'.out _ HBc.out).mono ?_
      rintro e wf ⟨vf, R, rfl, hb, hrR, hFw⟩
      have HDf := Lib.hid (HDc.out.trans (hb.mono HDc.out.size))
      have HBf := Lib.hid (HBc.out.trans (hb.mono HBc.out.size))
      have HPf := Lib.hid (HPc.out.keep hb)
      have HFW2 := Lib.hid hFw
      have HRR := Lib.hid hrR
      have HRL : Hid (R.length ≤ 1000) := Lib.hid (by
        obtain ⟨L, hL⟩ := ord_exists HND.out
        have h1 := cnd_len hL hFw.1
        have h2 := HN12.out
        omega)
      have HON := Lib.hid (lonly_any wd hg oa za g.length oc Z.length zc (.slice (some ⟨tb, tf, none⟩) T.length tc) vf T R wf (HTR.out.keep HBf.out) HTL.out hrR HRL.out hFw.1.1)
      unfold coV at HON
      clear hb hrR hFw p0 p1 p2 p3 p4
      obtain ⟨p0, p1, p2, p3, p4, _⟩ := HRD.out _ HDf.out
      go_wp2_with fail
      refine HON.out.mono ?_
      rintro e wo ⟨a2, n2, c2, rfl, hb, htw⟩
      have HDo := Lib.hid (HDf.out.trans (hb.mono HDf.out.size))
      have HBo := Lib.hid (HBf.out.trans (hb.mono HBf.out.size))
      have hY := (Below.refl _ wo).alloc (Nat.le_refl _) (.cells #[.int .i64 wd, .int .i64 hg, .slice oa g.length oc, .slice a2 n2 c2, .slice za Z.length zc] 28)
      have HPo := Lib.hid ((HPf.out.keep hb).keep hY)
      have HRo := Lib.hid ((HRR.out.keep hb).keep hY)
      have HTo := Lib.hid (htw.keep hY)
      have HQ : Hid ((wo.alloc (.cells #[.int .i64 wd, .int .i64 hg, .slice oa g.length oc, .slice a2 n2 c2, .slice za Z.length zc] 28)).heap[wo.heap.size]? = some (.cells #[.int .i64 wd, .int .i64 hg, .slice oa g.length oc, .slice a2 n2 c2, .slice za Z.length zc] 28 (0, 0))) := Lib.hid (heap_alloc_new _ _)
      have HDY := Lib.hid (HDo.out.trans (hY.mono HDo.out.size))
      have HBY := Lib.hid (HBo.out.trans (hY.mono HBo.out.size))
      clear hY hb htw p0 p1 p2 p3 p4 HON HPf HRR
      have q0 := cellH HQ.out 0
      have q1 := cellH HQ.out 1
      have q2 := cellH HQ.out 2
      have q3 := cellH HQ.out 3
      have q4 := cellH HQ.out 4
      simp only [List.getElem?_toArray, List.getElem?_cons_zero, List.getElem?_cons_succ] at q0 q1 q2 q3 q4
      go_wp2_with fail
      obtain ⟨Y, hY⟩ : ∃ Y, wo.alloc (.cells #[.int .i64 wd, .int .i64 hg, .slice oa g.length oc, .slice a2 n2 c2, .slice za Z.length zc] 28) = Y := ⟨_, rfl⟩
      rw [hY] at HPo HRo HTo HQ HDY HBY ⊢
      obtain ⟨D, hD⟩ : ∃ s, wo.heap.size = s := ⟨_, rfl⟩
      rw [hD] at HQ ⊢
      clear hY hD q0 q1 q2 q3 q4
      refine (HCB.out Y Y HBY.out (Below.refl _ _) _ (HKF'.out (fun t => decide (t.id ∈ R))).1 a2 n2 c2 HTo.out).mono ?_
      rintro e wx ⟨vx, rfl, hb, hrx⟩
      rw [HFS.out R HFW2.out] at hrx
      have HBx := Lib.hid (HBY.out.trans (hb.mono HBY.out.size))
      have HPx := Lib.hid (HPo.out.keep hb)
      have HRx := Lib.hid (HRo.out.keep hb)
      have HTx := Lib.hid (HTo.out.keep hb)
      have HQx := Lib.hid ((hb.block _ (Array.getElem?_eq_some_iff.1 HQ.out).1).trans HQ.out)
      have HPL := Lib.hid (lplaces_any vx v4 l1 l1 wx hrx HPx.out HLL.out.1 HLL.out.1)
      rw [decide_eq_true (rfl : l1 = l1)] at HPL
      clear hb hrx HPo HRo HTo HQ
      go_wp2_with fail
      refine HPL.out.mono ?_
      rintro e wl ⟨rfl, hb⟩
      have HBl := Lib.hid (HBx.out.trans (hb.mono HBx.out.size))
      have HPl := Lib.hid (HPx.out.keep hb)
      have hrl := HRx.out.keep hb
      have HTl := Lib.hid (HTx.out.keep hb)
      have HQl := Lib.hid ((hb.block _ (Array.getElem?_eq_some_iff.1 HQx.out).1).trans HQx.out)
      obtain ⟨ra, rc, rfl, hrc⟩ := hrl.form
      have HRC := Lib.hid hrc
      clear hb hrl hrc HPx HRx HTx HQx HPL
      go_wp2_with fail
      go_loopw [28] (fun i wr => ∃ (k : Nat), k ≤ R.length ∧ i = .int .i64 k ∧ Hid (Below wl.heap.size wl wr)) (fun i _ => R.length - (intOf i).toNat)
      case atStart => exact ⟨0, Nat.zero_le _, rfl, Lib.hid (Below.refl _ _)⟩
      case round =>
        obtain ⟨j, hj, rfl, hB⟩ := hrel
        by_cases hjl : j < R.length
        · obtain ⟨rb, rf, rfl, hrb, c0⟩ := HRC.out j hjl
          have HJL := Lib.hid hjl
          have hji : (j : Int) < R.length := by omega
          have hj0 : (0 : Int) ≤ j := by omega
          have hxm : R.getD j 0 ∈ R := by rw [List.getD_eq_getElem?_getD, List.getElem?_eq_getElem hjl]; exact List.getElem_mem _
          obtain ⟨x, hx⟩ : ∃ x, R.getD j 0 = x := ⟨_, rfl⟩
          rw [hx] at c0 hxm
          have HXM := Lib.hid hxm
          have HBr := Lib.hid (HBl.out.trans (hB.out.mono HBl.out.size))
          have HKP2 : Hid (∀ w', Below wr.heap.size wr w' → Below wr.heap.size wr w' ∧ w'.cell? ⟨D, 0, none⟩ = some (.int .i64 wd) ∧ w'.cell? ⟨D, 1, none⟩ = some (.int .i64 hg) ∧ w'.cell? ⟨D, 2, none⟩ = some (.slice oa g.length oc) ∧ w'.cell? ⟨D, 3, none⟩ = some (.slice a2 n2 c2) ∧ w'.cell? ⟨D, 4, none⟩ = some (.slice za Z.length zc) ∧ w'.cell? ⟨rb, rf + j, none⟩ = some (.int .i64 x)) := Lib.hid (fun w' h => by
            have hlw := hB.out.trans (h.mono hB.out.size)
            have a := (hlw.block _ (Array.getElem?_eq_some_iff.1 HQl.out).1).trans HQl.out
            exact ⟨h, cellH a 0, cellH a 1, cellH a 2, cellH a 3, cellH a 4, (hlw.cell (p := ⟨rb, _, none⟩) hrb).trans c0⟩)
          have HW3 := Lib.hid (fun (w' : World) (h : Below wr.heap.size wr w') => (lwithout_any wd hg oa za g.length oc Z.length zc (.slice a2 n2 c2) (T.filter fun t => decide (t.id ∈ R)) x w' (HTl.out.keep (hB.out.trans (h.mono hB.out.size))) (Nat.le_trans (List.length_filter_le _ _) HTL.out)).mono fun e w'' ⟨a, n, c, he, hb, hr⟩ => (⟨a, n, c, he, h.trans (hb.mono h.size), hr⟩ : ∃ a n c, e = Ending.returned (coV wd hg (.slice oa g.length oc) (.slice a n c) (.slice za Z.length zc)) ∧ Below wr.heap.size wr w'' ∧ TwRow w'' (.slice a n c) ((T.filter fun t : Tw => decide (t.id ∈ R)).filter fun t : Tw => t.id != x)))
          have HC3 := Lib.hid (fun w' h a n c htr => HCB.out wr w' HBr.out h _ ((HKF'.out (fun t : Tw => decide (t.id ∈ R))).2 (fun t : Tw => t.id != x)) a n c htr)
          unfold coV at HW3
          obtain ⟨_, q0, q1, q2, q3, q4, e0⟩ := HKP2.out wr (Below.refl _ _)
          clear hx hrb c0 hxm
          go_wp2_with fail
          go_region_held3 (fun w' => Below wr.heap.size wr w' ∧ w'.cell? ⟨D, 0, none⟩ = some (.int .i64 wd) ∧ w'.cell? ⟨D, 1, none⟩ = some (.int .i64 hg) ∧ w'.cell? ⟨D, 2, none⟩ = some (.slice oa g.length oc) ∧ w'.cell? ⟨D, 3, none⟩ = some (.slice a2 n2 c2) ∧ w'.cell? ⟨D, 4, none⟩ = some (.slice za Z.length zc) ∧ w'.cell? ⟨rb, rf + j, none⟩ = some (.int .i64 x))
            (first | exact HKP2.out _ ((Below.refl _ _).drew) | exact HKP2.out _ (by assumption))
            (first | (go_at_call 12; go_split_ands; refine (HW3.out _ ?_).mono ?_; assumption; rintro e wy ⟨ay, ny, cy, rfl, hby, hry⟩) | (go_at_call 9; go_split_ands; refine (HC3.out _ ?_ _ _ _ ?_).mono ?_; assumption; assumption; rintro e wz ⟨vz, rfl, hbz, hrz⟩))
          have HBz := Lib.hid (hB.out.trans (hbz.mono hB.out.size))
          have HPz := Lib.hid (HPl.out.keep HBz.out)
          have HPL := Lib.hid (lplaces_any vz v4 _ l1 wz hrz HPz.out (HFLN.out _) HLL.out.1)
          rw [decide_eq_false (HFL2.out R x HFW2.out HXM.out)] at HPL
          clear hbz hrz hby hry HW3 HC3 q0 q1 q2 q3 q4 e0 HKP2
          go_wp2_with fail
          refine HPL.out.mono ?_
          rintro e wn ⟨rfl, hb⟩
          have HBn := Lib.hid (HBz.out.trans (hb.mono HBz.out.size))
          clear hb HPL
          have hjl2 := HJL.out
          have hrl2 := HRL.out
          have hj1 : (j : Int) < R.length := by omega
          have hj2 : (R.length : Int) ≤ 1000 := by omega
          go_wp2_with fail
          go_roundw
          case rel => exact ⟨j + 1, HJL.out, by go_num, HBn⟩
          case measure => have hjl2 := HJL.out; simp [intOf]; omega
        · obtain rfl : j = R.length := by omega
          go_wp2_with fail
          go_ret
          exact ⟨rfl, HBl.out.trans (hB.out.mono HBl.out.size)⟩
  · clear HP4 HP5 HP4b HP5b HP5c
    by_cases hT0 : T.length = 0
    · have hz0 : ¬ ((0 : Int) < (T.length : Int)) := by omega
      clear hT0
      obtain ⟨p0, p1, p2, p3, p4, _⟩ := HRD.out _ HD7.out
      go_wp2_with fail
      clear hz0
      refine (H5'.out _ HB7.out).mono ?_
      rintro e wf ⟨vf, R, rfl, hb, hrR, hFw⟩
      have HDf := Lib.hid (HD7.out.trans (hb.mono HD7.out.size))
      have HBf := Lib.hid (HB7.out.trans (hb.mono HB7.out.size))
      have HPf := Lib.hid (HP4c.out.keep hb)
      have HFW2 := Lib.hid hFw
      have HRR := Lib.hid hrR
      have HRL : Hid (R.length ≤ 1000) := Lib.hid (by
        obtain ⟨L, hL⟩ := ord_exists HND.out
        have h1 := cnd_len hL hFw.1
        have h2 := HN12.out
        omega)
      have HON := Lib.hid (lonly_any wd hg oa za g.length oc Z.length zc (.slice ta T.length tc) vf T R wf (HTR.out.keep HBf.out) HTL.out hrR HRL.out hFw.1.1)
      unfold coV at HON
      clear hb hrR hFw p0 p1 p2 p3 p4
      obtain ⟨p0, p1, p2, p3, p4, _⟩ := HRD.out _ HDf.out
      go_wp2_with fail
      refine HON.out.mono ?_
      rintro e wo ⟨a2, n2, c2, rfl, hb, htw⟩
      have HDo := Lib.hid (HDf.out.trans (hb.mono HDf.out.size))
      have HBo := Lib.hid (HBf.out.trans (hb.mono HBf.out.size))
      have hY := (Below.refl _ wo).alloc (Nat.le_refl _) (.cells #[.int .i64 wd, .int .i64 hg, .slice oa g.length oc, .slice a2 n2 c2, .slice za Z.length zc] 28)
      have HPo := Lib.hid ((HPf.out.keep hb).keep hY)
      have HRo := Lib.hid ((HRR.out.keep hb).keep hY)
      have HTo := Lib.hid (htw.keep hY)
      have HQ : Hid ((wo.alloc (.cells #[.int .i64 wd, .int .i64 hg, .slice oa g.length oc, .slice a2 n2 c2, .slice za Z.length zc] 28)).heap[wo.heap.size]? = some (.cells #[.int .i64 wd, .int .i64 hg, .slice oa g.length oc, .slice a2 n2 c2, .slice za Z.length zc] 28 (0, 0))) := Lib.hid (heap_alloc_new _ _)
      have HDY := Lib.hid (HDo.out.trans (hY.mono HDo.out.size))
      have HBY := Lib.hid (HBo.out.trans (hY.mono HBo.out.size))
      clear hY hb htw p0 p1 p2 p3 p4 HON HPf HRR
      have q0 := cellH HQ.out 0
      have q1 := cellH HQ.out 1
      have q2 := cellH HQ.out 2
      have q3 := cellH HQ.out 3
      have q4 := cellH HQ.out 4
      simp only [List.getElem?_toArray, List.getElem?_cons_zero, List.getElem?_cons_succ] at q0 q1 q2 q3 q4
      go_wp2_with fail
      obtain ⟨Y, hY⟩ : ∃ Y, wo.alloc (.cells #[.int .i64 wd, .int .i64 hg, .slice oa g.length oc, .slice a2 n2 c2, .slice za Z.length zc] 28) = Y := ⟨_, rfl⟩
      rw [hY] at HPo HRo HTo HQ HDY HBY ⊢
      obtain ⟨D, hD⟩ : ∃ s, wo.heap.size = s := ⟨_, rfl⟩
      rw [hD] at HQ ⊢
      clear hY hD q0 q1 q2 q3 q4
      refine (HCB.out Y Y HBY.out (Below.refl _ _) _ (HKF'.out (fun t => decide (t.id ∈ R))).1 a2 n2 c2 HTo.out).mono ?_
      rintro e wx ⟨vx, rfl, hb, hrx⟩
      rw [HFS.out R HFW2.out] at hrx
      have HBx := Lib.hid (HBY.out.trans (hb.mono HBY.out.size))
      have HPx := Lib.hid (HPo.out.keep hb)
      have HRx := Lib.hid (HRo.out.keep hb)
      have HTx := Lib.hid (HTo.out.keep hb)
      have HQx := Lib.hid ((hb.block _ (Array.getElem?_eq_some_iff.1 HQ.out).1).trans HQ.out)
      have HPL := Lib.hid (lplaces_any vx v4 l1 l1 wx hrx HPx.out HLL.out.1 HLL.out.1)
      rw [decide_eq_true (rfl : l1 = l1)] at HPL
      clear hb hrx HPo HRo HTo HQ
      go_wp2_with fail
      refine HPL.out.mono ?_
      rintro e wl ⟨rfl, hb⟩
      have HBl := Lib.hid (HBx.out.trans (hb.mono HBx.out.size))
      have HPl := Lib.hid (HPx.out.keep hb)
      have hrl := HRx.out.keep hb
      have HTl := Lib.hid (HTx.out.keep hb)
      have HQl := Lib.hid ((hb.block _ (Array.getElem?_eq_some_iff.1 HQx.out).1).trans HQx.out)
      obtain ⟨ra, rc, rfl, hrc⟩ := hrl.form
      have HRC := Lib.hid hrc
      clear hb hrl hrc HPx HRx HTx HQx HPL
      go_wp2_with fail
      go_loopw [28] (fun i wr => ∃ (k : Nat), k ≤ R.length ∧ i = .int .i64 k ∧ Hid (Below wl.heap.size wl wr)) (fun i _ => R.length - (intOf i).toNat)
      case atStart => exact ⟨0, Nat.zero_le _, rfl, Lib.hid (Below.refl _ _)⟩
      case round =>
        obtain ⟨j, hj, rfl, hB⟩ := hrel
        by_cases hjl : j < R.length
        · obtain ⟨rb, rf, rfl, hrb, c0⟩ := HRC.out j hjl
          have HJL := Lib.hid hjl
          have hji : (j : Int) < R.length := by omega
          have hj0 : (0 : Int) ≤ j := by omega
          have hxm : R.getD j 0 ∈ R := by rw [List.getD_eq_getElem?_getD, List.getElem?_eq_getElem hjl]; exact List.getElem_mem _
          obtain ⟨x, hx⟩ : ∃ x, R.getD j 0 = x := ⟨_, rfl⟩
          rw [hx] at c0 hxm
          have HXM := Lib.hid hxm
          have HBr := Lib.hid (HBl.out.trans (hB.out.mono HBl.out.size))
          have HKP2 : Hid (∀ w', Below wr.heap.size wr w' → Below wr.heap.size wr w' ∧ w'.cell? ⟨D, 0, none⟩ = some (.int .i64 wd) ∧ w'.cell? ⟨D, 1, none⟩ = some (.int .i64 hg) ∧ w'.cell? ⟨D, 2, none⟩ = some (.slice oa g.length oc) ∧ w'.cell? ⟨D, 3, none⟩ = some (.slice a2 n2 c2) ∧ w'.cell? ⟨D, 4, none⟩ = some (.slice za Z.length zc) ∧ w'.cell? ⟨rb, rf + j, none⟩ = some (.int .i64 x)) := Lib.hid (fun w' h => by
            have hlw := hB.out.trans (h.mono hB.out.size)
            have a := (hlw.block _ (Array.getElem?_eq_some_iff.1 HQl.out).1).trans HQl.out
            exact ⟨h, cellH a 0, cellH a 1, cellH a 2, cellH a 3, cellH a 4, (hlw.cell (p := ⟨rb, _, none⟩) hrb).trans c0⟩)
          have HW3 := Lib.hid (fun (w' : World) (h : Below wr.heap.size wr w') => (lwithout_any wd hg oa za g.length oc Z.length zc (.slice a2 n2 c2) (T.filter fun t => decide (t.id ∈ R)) x w' (HTl.out.keep (hB.out.trans (h.mono hB.out.size))) (Nat.le_trans (List.length_filter_le _ _) HTL.out)).mono fun e w'' ⟨a, n, c, he, hb, hr⟩ => (⟨a, n, c, he, h.trans (hb.mono h.size), hr⟩ : ∃ a n c, e = Ending.returned (coV wd hg (.slice oa g.length oc) (.slice a n c) (.slice za Z.length zc)) ∧ Below wr.heap.size wr w'' ∧ TwRow w'' (.slice a n c) ((T.filter fun t : Tw => decide (t.id ∈ R)).filter fun t : Tw => t.id != x)))
          have HC3 := Lib.hid (fun w' h a n c htr => HCB.out wr w' HBr.out h _ ((HKF'.out (fun t : Tw => decide (t.id ∈ R))).2 (fun t : Tw => t.id != x)) a n c htr)
          unfold coV at HW3
          obtain ⟨_, q0, q1, q2, q3, q4, e0⟩ := HKP2.out wr (Below.refl _ _)
          clear hx hrb c0 hxm
          go_wp2_with fail
          go_region_held3 (fun w' => Below wr.heap.size wr w' ∧ w'.cell? ⟨D, 0, none⟩ = some (.int .i64 wd) ∧ w'.cell? ⟨D, 1, none⟩ = some (.int .i64 hg) ∧ w'.cell? ⟨D, 2, none⟩ = some (.slice oa g.length oc) ∧ w'.cell? ⟨D, 3, none⟩ = some (.slice a2 n2 c2) ∧ w'.cell? ⟨D, 4, none⟩ = some (.slice za Z.length zc) ∧ w'.cell? ⟨rb, rf + j, none⟩ = some (.int .i64 x))
            (first | exact HKP2.out _ ((Below.refl _ _).drew) | exact HKP2.out _ (by assumption))
            (first | (go_at_call 12; go_split_ands; refine (HW3.out _ ?_).mono ?_; assumption; rintro e wy ⟨ay, ny, cy, rfl, hby, hry⟩) | (go_at_call 9; go_split_ands; refine (HC3.out _ ?_ _ _ _ ?_).mono ?_; assumption; assumption; rintro e wz ⟨vz, rfl, hbz, hrz⟩))
          have HBz := Lib.hid (hB.out.trans (hbz.mono hB.out.size))
          have HPz := Lib.hid (HPl.out.keep HBz.out)
          have HPL := Lib.hid (lplaces_any vz v4 _ l1 wz hrz HPz.out (HFLN.out _) HLL.out.1)
          rw [decide_eq_false (HFL2.out R x HFW2.out HXM.out)] at HPL
          clear hbz hrz hby hry HW3 HC3 q0 q1 q2 q3 q4 e0 HKP2
          go_wp2_with fail
          refine HPL.out.mono ?_
          rintro e wn ⟨rfl, hb⟩
          have HBn := Lib.hid (HBz.out.trans (hb.mono HBz.out.size))
          clear hb HPL
          have hjl2 := HJL.out
          have hrl2 := HRL.out
          have hj1 : (j : Int) < R.length := by omega
          have hj2 : (R.length : Int) ≤ 1000 := by omega
          go_wp2_with fail
          go_roundw
          case rel => exact ⟨j + 1, HJL.out, by go_num, HBn⟩
          case measure => have hjl2 := HJL.out; simp [intOf]; omega
        · obtain rfl : j = R.length := by omega
          go_wp2_with fail
          go_ret
          exact ⟨rfl, HBl.out.trans (hB.out.mono HBl.out.size)⟩
    · have hn0 : 0 < T.length := by omega
      obtain ⟨un, rfl⟩ := Int.eq_ofNat_of_zero_le hu.1
      have hun := hu.2
      obtain ⟨k, hk⟩ : ∃ k, un % T.length = k := ⟨_, rfl⟩
      have hkl : k < T.length := by rw [← hk]; exact Nat.mod_lt _ hn0
      obtain ⟨tb, tf, rfl, htb, d0, _, _, _⟩ := HTC.out k hkl
      obtain ⟨ti, hti⟩ : ∃ z, (T.getD k .nil).id = z := ⟨_, rfl⟩
      rw [hti] at d0
      have HTI : Hid (∀ W', Below w.heap.size w W' → W'.cell? ⟨tb, tf + k * 4, none⟩ = some (.int .i64 ti)) := Lib.hid (fun W' h => (h.cell (p := ⟨tb, _, none⟩) htb).trans d0)
      have HKP : Hid (∀ w', Below w7.heap.size w7 w' → Below w7.heap.size w7 w' ∧ w'.cell? ⟨w.heap.size, 0, none⟩ = some (.int .i64 wd) ∧ w'.cell? ⟨w.heap.size, 1, none⟩ = some (.int .i64 hg) ∧ w'.cell? ⟨w.heap.size, 2, none⟩ = some (.slice oa g.length oc) ∧ w'.cell? ⟨w.heap.size, 3, none⟩ = some (.slice (some ⟨tb, tf, none⟩) T.length tc) ∧ w'.cell? ⟨w.heap.size, 4, none⟩ = some (.slice za Z.length zc) ∧ w'.cell? ⟨tb, tf + k * 4, none⟩ = some (.int .i64 ti)) := Lib.hid (fun w' h => by
        obtain ⟨a, b, c, d, e, f⟩ := HRD.out w' (HD7.out.trans (h.mono HD7.out.size))
        exact ⟨h, a, b, c, d, e, HTI.out w' f⟩)
      have HWO2 := Lib.hid (fun w' h => HWO.out w7 w' HB7.out h ti)
      have HCB2 := Lib.hid (fun w' h a n c htr => HCB.out w7 w' HB7.out h _ (HKF'.out (fun t => t.id != ti)).1 a n c htr)
      have hrm : ((un : Nat) : Int).tmod ((T.length : Nat) : Int) = (k : Int) := by
        rw [Int.tmod_eq_emod_of_nonneg (by omega), ← Int.natCast_emod, hk]
      have hki : (k : Int) < T.length := by omega
      have hk0 : (0 : Int) ≤ k := by omega
      have hnz : ¬ ((T.length : Int) = 0) := by omega
      have hpos : (0 : Int) < (T.length : Int) := by omega
      have hwu : IntKind.i64.wrap ((un : Nat) : Int) = un := IntWalk.i64_in _ (by omega)
      clear hu hun hk d0 hti htb
      obtain ⟨p0, p1, p2, p3, p4, _⟩ := HRD.out _ HD7.out
      go_wp2_with fail
      go_region_held3 (fun w' => Below w7.heap.size w7 w' ∧ w'.cell? ⟨w.heap.size, 0, none⟩ = some (.int .i64 wd) ∧ w'.cell? ⟨w.heap.size, 1, none⟩ = some (.int .i64 hg) ∧ w'.cell? ⟨w.heap.size, 2, none⟩ = some (.slice oa g.length oc) ∧ w'.cell? ⟨w.heap.size, 3, none⟩ = some (.slice (some ⟨tb, tf, none⟩) T.length tc) ∧ w'.cell? ⟨w.heap.size, 4, none⟩ = some (.slice za Z.length zc) ∧ w'.cell? ⟨tb, tf + k * 4, none⟩ = some (.int .i64 ti))
        (first | exact HKP.out _ ((Below.refl _ _).drew) | exact HKP.out _ (by assumption))
        (first | (go_at_call 12; go_split_ands; refine (HWO2.out _ ?_).mono ?_; assumption; rintro e wa ⟨a8, n8, c8, rfl, hba, hra⟩) | (go_at_call 9; go_split_ands; refine (HCB2.out _ ?_ _ _ _ ?_).mono ?_; assumption; assumption; rintro e wb ⟨vb, rfl, hbb, hrb⟩))
      have HDb := Lib.hid (HD7.out.trans (hbb.mono HD7.out.size))
      have HBb := Lib.hid (HB7.out.trans (hbb.mono HB7.out.size))
      have HPb := Lib.hid (HP4c.out.keep hbb)
      have HWI3 := Lib.hid (lwithin_any vb v4 _ l1 wb hrb HPb.out (HFLN.out _) HLL.out.1 HOK.out.1 (HSL.out _))
      clear hbb hrb HWO2 HCB2 p0 p1 p2 p3 p4 hrm hki hk0 hnz hpos hwu HKP hba hra
      go_wp2_with fail
      refine HWI3.out.mono ?_
      rintro e wc ⟨rfl, hb⟩
      have HDc := Lib.hid (HDb.out.trans (hb.mono HDb.out.size))
      have HBc := Lib.hid (HBb.out.trans (hb.mono HBb.out.size))
      have HPc := Lib.hid (HPb.out.keep hb)
      clear hb HWI3
      obtain ⟨p0, p1, p2, p3, p4, _⟩ := HRD.out _ HDc.out
      go_wp2_with fail
      refine (H5'.out _ HBc.out).mono ?_
      rintro e wf ⟨vf, R, rfl, hb, hrR, hFw⟩
      have HDf := Lib.hid (HDc.out.trans (hb.mono HDc.out.size))
      have HBf := Lib.hid (HBc.out.trans (hb.mono HBc.out.size))
      have HPf := Lib.hid (HPc.out.keep hb)
      have HFW2 := Lib.hid hFw
      have HRR := Lib.hid hrR
      have HRL : Hid (R.length ≤ 1000) := Lib.hid (by
        obtain ⟨L, hL⟩ := ord_exists HND.out
        have h1 := cnd_len hL hFw.1
        have h2 := HN12.out
        omega)
      have HON := Lib.hid (lonly_any wd hg oa za g.length oc Z.length zc (.slice (some ⟨tb, tf, none⟩) T.length tc) vf T R wf (HTR.out.keep HBf.out) HTL.out hrR HRL.out hFw.1.1)
      unfold coV at HON
      clear hb hrR hFw p0 p1 p2 p3 p4
      obtain ⟨p0, p1, p2, p3, p4, _⟩ := HRD.out _ HDf.out
      go_wp2_with fail
      refine HON.out.mono ?_
      rintro e wo ⟨a2, n2, c2, rfl, hb, htw⟩
      have HDo := Lib.hid (HDf.out.trans (hb.mono HDf.out.size))
      have HBo := Lib.hid (HBf.out.trans (hb.mono HBf.out.size))
      have hY := (Below.refl _ wo).alloc (Nat.le_refl _) (.cells #[.int .i64 wd, .int .i64 hg, .slice oa g.length oc, .slice a2 n2 c2, .slice za Z.length zc] 28)
      have HPo := Lib.hid ((HPf.out.keep hb).keep hY)
      have HRo := Lib.hid ((HRR.out.keep hb).keep hY)
      have HTo := Lib.hid (htw.keep hY)
      have HQ : Hid ((wo.alloc (.cells #[.int .i64 wd, .int .i64 hg, .slice oa g.length oc, .slice a2 n2 c2, .slice za Z.length zc] 28)).heap[wo.heap.size]? = some (.cells #[.int .i64 wd, .int .i64 hg, .slice oa g.length oc, .slice a2 n2 c2, .slice za Z.length zc] 28 (0, 0))) := Lib.hid (heap_alloc_new _ _)
      have HDY := Lib.hid (HDo.out.trans (hY.mono HDo.out.size))
      have HBY := Lib.hid (HBo.out.trans (hY.mono HBo.out.size))
      clear hY hb htw p0 p1 p2 p3 p4 HON HPf HRR
      have q0 := cellH HQ.out 0
      have q1 := cellH HQ.out 1
      have q2 := cellH HQ.out 2
      have q3 := cellH HQ.out 3
      have q4 := cellH HQ.out 4
      simp only [List.getElem?_toArray, List.getElem?_cons_zero, List.getElem?_cons_succ] at q0 q1 q2 q3 q4
      go_wp2_with fail
      obtain ⟨Y, hY⟩ : ∃ Y, wo.alloc (.cells #[.int .i64 wd, .int .i64 hg, .slice oa g.length oc, .slice a2 n2 c2, .slice za Z.length zc] 28) = Y := ⟨_, rfl⟩
      rw [hY] at HPo HRo HTo HQ HDY HBY ⊢
      obtain ⟨D, hD⟩ : ∃ s, wo.heap.size = s := ⟨_, rfl⟩
      rw [hD] at HQ ⊢
      clear hY hD q0 q1 q2 q3 q4
      refine (HCB.out Y Y HBY.out (Below.refl _ _) _ (HKF'.out (fun t => decide (t.id ∈ R))).1 a2 n2 c2 HTo.out).mono ?_
      rintro e wx ⟨vx, rfl, hb, hrx⟩
      rw [HFS.out R HFW2.out] at hrx
      have HBx := Lib.hid (HBY.out.trans (hb.mono HBY.out.size))
      have HPx := Lib.hid (HPo.out.keep hb)
      have HRx := Lib.hid (HRo.out.keep hb)
      have HTx := Lib.hid (HTo.out.keep hb)
      have HQx := Lib.hid ((hb.block _ (Array.getElem?_eq_some_iff.1 HQ.out).1).trans HQ.out)
      have HPL := Lib.hid (lplaces_any vx v4 l1 l1 wx hrx HPx.out HLL.out.1 HLL.out.1)
      rw [decide_eq_true (rfl : l1 = l1)] at HPL
      clear hb hrx HPo HRo HTo HQ
      go_wp2_with fail
      refine HPL.out.mono ?_
      rintro e wl ⟨rfl, hb⟩
      have HBl := Lib.hid (HBx.out.trans (hb.mono HBx.out.size))
      have HPl := Lib.hid (HPx.out.keep hb)
      have hrl := HRx.out.keep hb
      have HTl := Lib.hid (HTx.out.keep hb)
      have HQl := Lib.hid ((hb.block _ (Array.getElem?_eq_some_iff.1 HQx.out).1).trans HQx.out)
      obtain ⟨ra, rc, rfl, hrc⟩ := hrl.form
      have HRC := Lib.hid hrc
      clear hb hrl hrc HPx HRx HTx HQx HPL
      go_wp2_with fail
      go_loopw [28] (fun i wr => ∃ (k : Nat), k ≤ R.length ∧ i = .int .i64 k ∧ Hid (Below wl.heap.size wl wr)) (fun i _ => R.length - (intOf i).toNat)
      case atStart => exact ⟨0, Nat.zero_le _, rfl, Lib.hid (Below.refl _ _)⟩
      case round =>
        obtain ⟨j, hj, rfl, hB⟩ := hrel
        by_cases hjl : j < R.length
        · obtain ⟨rb, rf, rfl, hrb, c0⟩ := HRC.out j hjl
          have HJL := Lib.hid hjl
          have hji : (j : Int) < R.length := by omega
          have hj0 : (0 : Int) ≤ j := by omega
          have hxm : R.getD j 0 ∈ R := by rw [List.getD_eq_getElem?_getD, List.getElem?_eq_getElem hjl]; exact List.getElem_mem _
          obtain ⟨x, hx⟩ : ∃ x, R.getD j 0 = x := ⟨_, rfl⟩
          rw [hx] at c0 hxm
          have HXM := Lib.hid hxm
          have HBr := Lib.hid (HBl.out.trans (hB.out.mono HBl.out.size))
          have HKP2 : Hid (∀ w', Below wr.heap.size wr w' → Below wr.heap.size wr w' ∧ w'.cell? ⟨D, 0, none⟩ = some (.int .i64 wd) ∧ w'.cell? ⟨D, 1, none⟩ = some (.int .i64 hg) ∧ w'.cell? ⟨D, 2, none⟩ = some (.slice oa g.length oc) ∧ w'.cell? ⟨D, 3, none⟩ = some (.slice a2 n2 c2) ∧ w'.cell? ⟨D, 4, none⟩ = some (.slice za Z.length zc) ∧ w'.cell? ⟨rb, rf + j, none⟩ = some (.int .i64 x)) := Lib.hid (fun w' h => by
            have hlw := hB.out.trans (h.mono hB.out.size)
            have a := (hlw.block _ (Array.getElem?_eq_some_iff.1 HQl.out).1).trans HQl.out
            exact ⟨h, cellH a 0, cellH a 1, cellH a 2, cellH a 3, cellH a 4, (hlw.cell (p := ⟨rb, _, none⟩) hrb).trans c0⟩)
          have HW3 := Lib.hid (fun (w' : World) (h : Below wr.heap.size wr w') => (lwithout_any wd hg oa za g.length oc Z.length zc (.slice a2 n2 c2) (T.filter fun t => decide (t.id ∈ R)) x w' (HTl.out.keep (hB.out.trans (h.mono hB.out.size))) (Nat.le_trans (List.length_filter_le _ _) HTL.out)).mono fun e w'' ⟨a, n, c, he, hb, hr⟩ => (⟨a, n, c, he, h.trans (hb.mono h.size), hr⟩ : ∃ a n c, e = Ending.returned (coV wd hg (.slice oa g.length oc) (.slice a n c) (.slice za Z.length zc)) ∧ Below wr.heap.size wr w'' ∧ TwRow w'' (.slice a n c) ((T.filter fun t : Tw => decide (t.id ∈ R)).filter fun t : Tw => t.id != x)))
          have HC3 := Lib.hid (fun w' h a n c htr => HCB.out wr w' HBr.out h _ ((HKF'.out (fun t : Tw => decide (t.id ∈ R))).2 (fun t : Tw => t.id != x)) a n c htr)
          unfold coV at HW3
          obtain ⟨_, q0, q1, q2, q3, q4, e0⟩ := HKP2.out wr (Below.refl _ _)
          clear hx hrb c0 hxm
          go_wp2_with fail
          go_region_held3 (fun w' => Below wr.heap.size wr w' ∧ w'.cell? ⟨D, 0, none⟩ = some (.int .i64 wd) ∧ w'.cell? ⟨D, 1, none⟩ = some (.int .i64 hg) ∧ w'.cell? ⟨D, 2, none⟩ = some (.slice oa g.length oc) ∧ w'.cell? ⟨D, 3, none⟩ = some (.slice a2 n2 c2) ∧ w'.cell? ⟨D, 4, none⟩ = some (.slice za Z.length zc) ∧ w'.cell? ⟨rb, rf + j, none⟩ = some (.int .i64 x))
            (first | exact HKP2.out _ ((Below.refl _ _).drew) | exact HKP2.out _ (by assumption))
            (first | (go_at_call 12; go_split_ands; refine (HW3.out _ ?_).mono ?_; assumption; rintro e wy ⟨ay, ny, cy, rfl, hby, hry⟩) | (go_at_call 9; go_split_ands; refine (HC3.out _ ?_ _ _ _ ?_).mono ?_; assumption; assumption; rintro e wz ⟨vz, rfl, hbz, hrz⟩))
          have HBz := Lib.hid (hB.out.trans (hbz.mono hB.out.size))
          have HPz := Lib.hid (HPl.out.keep HBz.out)
          have HPL := Lib.hid (lplaces_any vz v4 _ l1 wz hrz HPz.out (HFLN.out _) HLL.out.1)
          rw [decide_eq_false (HFL2.out R x HFW2.out HXM.out)] at HPL
          clear hbz hrz hby hry HW3 HC3 q0 q1 q2 q3 q4 e0 HKP2
          go_wp2_with fail
          refine HPL.out.mono ?_
          rintro e wn ⟨rfl, hb⟩
          have HBn := Lib.hid (HBz.out.trans (hb.mono HBz.out.size))
          clear hb HPL
          have hjl2 := HJL.out
          have hrl2 := HRL.out
          have hj1 : (j : Int) < R.length := by omega
          have hj2 : (R.length : Int) ≤ 1000 := by omega
          go_wp2_with fail
          go_roundw
          case rel => exact ⟨j + 1, HJL.out, by go_num, HBn⟩
          case measure => have hjl2 := HJL.out; simp [intOf]; omega
        · obtain rfl : j = R.length := by omega
          go_wp2_with fail
          go_ret
          exact ⟨rfl, HBl.out.trans (hB.out.mono HBl.out.size)⟩
end Go.Proofs.Ytnacgogcbbpjmaa
