/- greatest of package ridge. -/
import Derived.Test.YtnacgogcbbpjmaaHB0
import Derived.Test.YtnacgogcbbpjmaaHI0
set_option linter.unusedVariables false
set_option linter.unusedSimpArgs false
namespace Go.Proofs.Ytnacgogcbbpjmaa
open Go Go.RowKit

theorem foldl_take {l : List Int} {k : Nat} (a : Int) (h : k < l.length) : (l.take (k + 1)).foldl max a = max ((l.take k).foldl max a) (l.getD k 0) := by
  rw [List.take_add_one, List.foldl_append, List.getD_eq_getElem?_getD]
  simp [List.getElem?_eq_getElem h]
set_option maxRecDepth 100000 in
set_option maxHeartbeats 1000000 in
theorem greatest_any (x : Int) (v : Value) (l : List Int) (w : World) (hv : INRow w v l) (hl : l.length ≤ 100000) :
    Calls Try.prog 29 #[.int .i64 x, v] w fun e w' => e = .returned (.int .i64 (l.foldl max x)) ∧ Below w.heap.size w w' := by
  obtain ⟨a, cap, rfl, hc⟩ := hv.form
  have HC := Lib.hid hc
  clear hc hv
  go_enter Try.func29, Try.ntmps29
  go_wp2_with fail
  go_loopw [0, 9] (fun m i wr => ∃ (k : Nat) (y : Int), k ≤ l.length ∧ m = .int .i64 y ∧ i = .int .i64 k ∧ Hid (y = (l.take k).foldl max x) ∧ Hid (Below w.heap.size w wr)) (fun _ i _ => l.length - (intOf i).toNat)
  case atStart => exact ⟨0, x, Nat.zero_le _, rfl, rfl, Lib.hid rfl, Lib.hid (Below.refl _ _)⟩
  case round =>
    obtain ⟨k, y, hk, rfl, rfl, hT, hB⟩ := hrel
    by_cases hkl : k < l.length
    · obtain ⟨b, off, rfl, hb, c0⟩ := HC.out k hkl
      have hki : (k : Int) < l.length := by omega
      have hk0 : (0 : Int) ≤ k := by omega
      have e0 := (hB.out.cell (p := ⟨b, _, none⟩) hb).trans c0
      have HN : Hid (max y (l.getD k 0) = (l.take (k + 1)).foldl max x) := Lib.hid (by rw [foldl_take _ hkl, hT.out])
      obtain ⟨z, hz⟩ : ∃ z, l.getD k 0 = z := ⟨_, rfl⟩
      rw [hz] at e0 HN
      clear c0 hb hz
      go_wp2_with fail
      go_roundw
      case rel => exact ⟨k + 1, max y z, by omega, rfl, by go_num, HN, hB⟩
      case measure => simp [intOf]; omega
    · obtain rfl : k = l.length := by omega
      have HN : Hid (y = l.foldl max x) := Lib.hid (by rw [hT.out, List.take_length])
      go_wp2_with fail
      go_ret
      exact ⟨ret_int' HN.out, hB.out⟩
end Go.Proofs.Ytnacgogcbbpjmaa

/-! needed of package ridge. -/
set_option linter.unusedVariables false
set_option linter.unusedSimpArgs false
namespace Go.Proofs.Ytnacgogcbbpjmaa
open Go Go.RowKit
attribute [local go_sem] Oper.semAt_some

theorem info_i : (Try.prog.info? 3).map (fun i => (i.zero, i.size, i.bytes)) = some (some (.int .i64 0), 1, 8) := by kernel_rfl
theorem INRow.of_own {w : World} {base : Nat} {v : Value} {l : List Int} (h : w.ownsRow base 3 1 v l.length (l.map (Value.int .i64 ·))) : INRow w v l := by
  rcases h.2 with ⟨h0, hn⟩ | ⟨g, cap, cur, hv, hg, hb, hn, hm, hs, ht⟩
  · have : l = [] := List.eq_nil_of_length_eq_zero hn
    subst this; exact .inl ⟨_, _, h0, rfl⟩
  · refine .inr ⟨g, 0, cap, hv, (Array.getElem?_eq_some_iff.1 hb).1, fun k hk => ?_⟩
    have h1 : (l.map (Value.int .i64 ·))[k]? = some (.int .i64 (l.getD k 0)) := by simp [List.getElem?_eq_getElem hk]
    rw [← ht, List.getElem?_take_of_lt (by omega), Array.getElem?_toList] at h1
    rw [Nat.zero_add, cellH hb]; exact h1
theorem crs_len (dx dy : Nat) : ∀ (f p q : Nat), (crs dx dy f p q).length ≤ f
  | 0, _, _ => by simp [crs]
  | f + 1, p, q => by
    have h1 := crs_len dx dy f p (q + 1)
    have h2 := crs_len dx dy f (p + 1) q
    unfold crs
    split
    · split <;> simp <;> omega
    · simp
theorem mts_len {wd hg : Int} {g : List Int} {a b : Pl} (hm : vmB wd hg g = true) (ha : onB wd hg a = true) (hb : onB wd hg b = true) : (mts g wd a b).length ≤ 96 := by
  obtain ⟨a1, a2, a3, a4⟩ := onB_ok ha
  obtain ⟨b1, b2, b3, b4⟩ := onB_ok hb
  obtain ⟨v1, v2, v3, v4, _, _⟩ := vmB_ok hm
  have d1 := dist_bd (a := a.1) (b := b.1) (by omega) (by omega)
  have d2 := dist_bd (a := a.2) (b := b.2) (by omega) (by omega)
  unfold mts crsM
  rw [List.length_map]
  have := crs_len (dist a.1 b.1).toNat (dist a.2 b.2).toNat ((dist a.1 b.1).toNat - 1 + ((dist a.2 b.2).toNat - 1)) 1 1
  omega
/-- The least height above the second place with which a line is free at a crossing, not rounded below 0. -/
def liftI (u v : Int) (x : Mt) : Int := (x.g - partI x u v + x.k - 1).tdiv x.k
def ndI (g : List Int) (wd : Int) (a : Pl) (up : Int) (b : Pl) : Int := ((mts g wd a b).map (liftI (hAt g wd a + up) (hAt g wd b))).foldl max 0
theorem part_bd {x : Mt} {u v : Int} (h : 1 ≤ x.k ∧ x.k < x.n ∧ x.n ≤ 48) (hu : 0 ≤ u ∧ u ≤ 4200) (hv : 0 ≤ v ∧ v ≤ 4200) : 0 ≤ partI x u v ∧ partI x u v ≤ 500000 := by
  unfold partI
  have m1 : 0 ≤ (x.n - x.k) * u := Int.mul_nonneg (by omega) (by omega)
  have m2 : (x.n - x.k) * u ≤ 48 * 4200 := Int.mul_le_mul (by omega) hu.2 hu.1 (by omega)
  have m3 : 0 ≤ x.k * v := Int.mul_nonneg (by omega) (by omega)
  have m4 : x.k * v ≤ 48 * 4200 := Int.mul_le_mul (by omega) hv.2 hv.1 (by omega)
  omega
def NdInv (w W1 : World) (wd hg : Int) (o : Value) (A0 B0 : Pl) (up ha' hq : Int) (listed : Array Bool) (a : Act) (w' : World) : Prop := ∃ (l0 l1 l2 l3 l4 l5 l6 l7 l8 l9 l10 l11 : Bool) (F T : Nat), listed = #[l0, l1, l2, l3, l4, l5, l6, l7, l8, l9, l10, l11] ∧ a = { tmps := #[.agg #[.int .i64 wd, .int .i64 hg, o], .agg #[.int .i64 A0.1, .int .i64 A0.2], .int .i64 up, .agg #[.int .i64 B0.1, .int .i64 B0.2], .pointer (some ⟨w.heap.size, 0, none⟩), .pointer (some ⟨w.heap.size + 1, 0, none⟩), undef, .pointer (some ⟨w.heap.size + 2, 0, none⟩), .int .i64 0, onlyIf l8 (.pointer (some ⟨F, 0, none⟩)), onlyIf l9 (.pointer (some ⟨T, 0, none⟩)), undef, undef, undef, onlyIf l0 (.agg #[.int .i64 wd, .int .i64 hg, o]), onlyIf l1 (.agg #[.int .i64 A0.1, .int .i64 A0.2]), onlyIf l2 (.int .i64 ha'), onlyIf l3 (.int .i64 up), onlyIf l4 (.int .i64 (ha' + up)), onlyIf l5 (.agg #[.int .i64 wd, .int .i64 hg, o]), onlyIf l6 (.agg #[.int .i64 B0.1, .int .i64 B0.2]), onlyIf l7 (.int .i64 hq), undef, undef, undef, undef, undef, undef, undef, undef, undef, undef, undef, undef, undef, undef, undef, undef, undef, undef, undef, undef, undef, undef, undef, undef, undef, undef, undef], defers := [] } ∧ Below W1.heap.size W1 w' ∧ (l8 = true → W1.heap.size ≤ F ∧ w'.heap[F]? = some (.cells #[.int .i64 (if l10 = true then ha' + up else 0)] 3 (0, 0))) ∧ (l9 = true → W1.heap.size ≤ T ∧ w'.heap[T]? = some (.cells #[.int .i64 (if l11 = true then hq else 0)] 3 (0, 0))) ∧ (l8 = true → l9 = true → F ≠ T) ∧ (l10 = true → l8 = true) ∧ (l11 = true → l9 = true)

set_option maxRecDepth 100000 in
set_option maxHeartbeats 8000000 in
theorem needed_any (wd hg : Int) (o : Value) (g : List Int) (a b : Pl) (up : Int) (w : World) (hv : INRow w o g) (hm : vmB wd hg g = true) (ha : onB wd hg a = true) (hb : onB wd hg b = true) (hu : 0 ≤ up ∧ up ≤ 200) :
    Calls Try.prog 50 #[mpV wd hg o, plV a, .int .i64 up, plV b] w fun e w' => e = .returned (.int .i64 (ndI g wd a up b)) ∧ Below w.heap.size w w' := by
  obtain ⟨x1, x2, x3, x4⟩ := on_idx hm ha
  obtain ⟨y1, y2, y3, y4⟩ := on_idx hm hb
  have hgl : 0 < g.length := by omega
  have HG := Lib.hid (GRow.of hv hgl)
  have HCa := Lib.hid (fun w' (h : Below w.heap.size w w') => heightAt_any wd hg o g a w' (hv.keep h) (by omega) ⟨x2, x3⟩ (by omega))
  have HCb := Lib.hid (fun w' (h : Below w.heap.size w w') => heightAt_any wd hg o g b w' (hv.keep h) (by omega) ⟨y2, y3⟩ (by omega))
  have HCR := Lib.hid (fun w' => crossings_any wd hg o a b w')
  have hA := hAt_bd hm ha
  have hB := hAt_bd hm hb
  have HN : Hid (ndI g wd a up b = ((mts g wd a b).map (liftI (hAt g wd a + up) (hAt g wd b))).foldl max 0) := Lib.hid rfl
  obtain ⟨ha', hae⟩ : ∃ x, hAt g wd a = x := ⟨_, rfl⟩
  obtain ⟨hq, hbe⟩ : ∃ x, hAt g wd b = x := ⟨_, rfl⟩
  rw [hae] at hA HCa HN
  rw [hbe] at hB HCb HN
  clear x1 x2 x3 x4 y1 y2 y3 y4 hae hbe hgl
  unfold mpV plV at HCa HCb HCR
  unfold mpV plV
  have e1 : IntKind.i64.wrap (ha' + up) = ha' + up := IntWalk.i64_in _ (by omega)
  have w1 : wrap64 (ha' + up) = ha' + up := w64 (by omega)
  have HA := Lib.hid (fun W' => three_cells w #[.int .i64 wd, .int .i64 hg, o] #[.int .i64 a.1, .int .i64 a.2] #[.int .i64 b.1, .int .i64 b.2] 24 32 32 (W := W'))
  have HB0 := Lib.hid ((((Below.refl _ w).alloc (Nat.le_refl w.heap.size) (.cells #[.int .i64 wd, .int .i64 hg, o] 24)).alloc (by simp) (.cells #[.int .i64 a.1, .int .i64 a.2] 32)).alloc (by simp; omega) (.cells #[.int .i64 b.1, .int .i64 b.2] 32))
  obtain ⟨W1, hW1⟩ : ∃ W1, ((w.alloc (.cells #[.int .i64 wd, .int .i64 hg, o] 24)).alloc (.cells #[.int .i64 a.1, .int .i64 a.2] 32)).alloc (.cells #[.int .i64 b.1, .int .i64 b.2] 32) = W1 := ⟨_, rfl⟩
  rw [hW1] at HA HB0
  have HW1 := Lib.hid hW1
  have ead : w.heap.size + 1 + 1 = w.heap.size + 2 := rfl
  have hua : 0 ≤ ha' + up ∧ ha' + up ≤ 4200 := by omega
  have hub : 0 ≤ hq ∧ hq ≤ 4200 := by omega
  clear hW1 hv hA hB
  refine callsIn_wide.1 (?_ : CallsIn Fence.wide 7 _ _ _ _ _)
  refine callsIn_of_wp_marks Try.func50 rfl trivial ?_ rfl
  simp only [Try.ntmps50, List.size_toArray, List.length_cons, List.length_nil, Nat.reduceAdd, Nat.reduceSub, Array.replicate_succ, Array.replicate_zero, List.push_toArray, List.append_toArray, List.nil_append, List.cons_append]
  refine wpIn_wide.2 ?_
  go_wp2_with fail
  rw [HW1.out]
  rename_i Q K hK
  have HRD : Hid (∀ W', Below W1.heap.size W1 W' → W'.cell? ⟨w.heap.size, 0, none⟩ = some (.int .i64 wd) ∧ W'.cell? ⟨w.heap.size, 1, none⟩ = some (.int .i64 hg) ∧ W'.cell? ⟨w.heap.size, 2, none⟩ = some o ∧ W'.cell? ⟨w.heap.size + 1, 0, none⟩ = some (.int .i64 a.1) ∧ W'.cell? ⟨w.heap.size + 1, 1, none⟩ = some (.int .i64 a.2) ∧ W'.cell? ⟨w.heap.size + 2, 0, none⟩ = some (.int .i64 b.1) ∧ W'.cell? ⟨w.heap.size + 2, 1, none⟩ = some (.int .i64 b.2)) := Lib.hid (fun W' h => by
    obtain ⟨m0, m1, m2, _, hw2⟩ := HA.out W' h
    exact ⟨cellH m0 0, cellH m0 1, cellH m0 2, cellH m1 0, cellH m1 1, cellH m2 0, cellH m2 1⟩)
  have CA : Hid (∀ w', Below W1.heap.size W1 w' → Calls Try.prog 76 #[.agg #[.int .i64 wd, .int .i64 hg, o], .agg #[.int .i64 a.1, .int .i64 a.2]] w' fun e w'' => e = .returned (.int .i64 ha') ∧ Below w'.heap.size w' w'') := Lib.hid (fun w' h => HCa.out w' (HB0.out.trans (h.mono HB0.out.size)))
  have CB : Hid (∀ w', Below W1.heap.size W1 w' → Calls Try.prog 76 #[.agg #[.int .i64 wd, .int .i64 hg, o], .agg #[.int .i64 b.1, .int .i64 b.2]] w' fun e w'' => e = .returned (.int .i64 hq) ∧ Below w'.heap.size w' w'') := Lib.hid (fun w' h => HCb.out w' (HB0.out.trans (h.mono HB0.out.size)))
  suffices key : ∀ (F T : Nat) (W : World), Hid (Below W1.heap.size W1 W ∧ W1.heap.size ≤ F ∧ W1.heap.size ≤ T ∧ F ≠ T ∧ W.heap[F]? = some (.cells #[.int .i64 (ha' + up)] 3 (0, 0)) ∧ W.heap[T]? = some (.cells #[.int .i64 hq] 3 (0, 0))) → Exit.then K Q Exit.normal { tmps := #[.agg #[.int .i64 wd, .int .i64 hg, o], .agg #[.int .i64 a.1, .int .i64 a.2], .int .i64 up, .agg #[.int .i64 b.1, .int .i64 b.2], .pointer (some ⟨w.heap.size, 0, none⟩), .pointer (some ⟨w.heap.size + 1, 0, none⟩), undef, .pointer (some ⟨w.heap.size + 2, 0, none⟩), .int .i64 0, (.pointer (some ⟨F, 0, none⟩)), (.pointer (some ⟨T, 0, none⟩)), undef, undef, undef, (.agg #[.int .i64 wd, .int .i64 hg, o]), (.agg #[.int .i64 a.1, .int .i64 a.2]), (.int .i64 ha'), (.int .i64 up), (.int .i64 (ha' + up)), (.agg #[.int .i64 wd, .int .i64 hg, o]), (.agg #[.int .i64 b.1, .int .i64 b.2]), (.int .i64 hq), undef, undef, undef, undef, undef, undef, undef, undef, undef, undef, undef, undef, undef, undef, undef, undef, undef, undef, undef, undef, undef, undef, undef, undef, undef, undef, undef], defers := [] } W by
    clear hK
    refine wp_region_inv (by kernel_rfl) (NdInv w W1 wd hg o a b up ha' hq) ⟨false, false, false, false, false, false, false, false, false, false, false, false, 0, 0, rfl, rfl, (Below.refl _ W1).drew, by simp, by simp, by simp, by simp, by simp⟩ ?hend ?hstep
    case hend =>
      rintro listed a w' ⟨l0, l1, l2, l3, l4, l5, l6, l7, l8, l9, l10, l11, F, T, rfl, rfl, hb, hF, hT, hne, kF, kT⟩ hr
      have hA := ready_all (by kernel_rfl) rfl hr 12
      have hall : l0 = true ∧ l1 = true ∧ l2 = true ∧ l3 = true ∧ l4 = true ∧ l5 = true ∧ l6 = true ∧ l7 = true ∧ l8 = true ∧ l9 = true ∧ l10 = true ∧ l11 = true :=
        ⟨hA 0 (by decide) (by simp), hA 1 (by decide) (by simp), hA 2 (by decide) (by simp), hA 3 (by decide) (by simp), hA 4 (by decide) (by simp), hA 5 (by decide) (by simp), hA 6 (by decide) (by simp), hA 7 (by decide) (by simp), hA 8 (by decide) (by simp), hA 9 (by decide) (by simp), hA 10 (by decide) (by simp), hA 11 (by decide) (by simp)⟩
      obtain ⟨rfl, rfl, rfl, rfl, rfl, rfl, rfl, rfl, rfl, rfl, rfl, rfl⟩ := hall
      exact key F T w' (Lib.hid ⟨hb, (hF rfl).1, (hT rfl).1, hne rfl rfl, (hF rfl).2, (hT rfl).2⟩)
    case hstep =>
      rintro listed a w' i ⟨l0, l1, l2, l3, l4, l5, l6, l7, l8, l9, l10, l11, F, T, rfl, rfl, hb, hF, hT, hne, kF, kT⟩ hi
      obtain ⟨hf, o', ho', hp⟩ := mem_ready.1 hi
      have hi8 : i < 12 := (Array.getElem?_eq_some_iff.1 ho').1
      clear hi
      have hQD := HRD.out w' hb
      match i, hi8 with
      | 0, _ =>
        obtain rfl : l0 = false := hf
        clear hp ho'
        unfold wpOp
        go_simp
        exact .inl ⟨true, l1, l2, l3, l4, l5, l6, l7, l8, l9, l10, l11, F, T, rfl, rfl, hb, hF, hT, hne, kF, kT⟩
      | 1, _ =>
        obtain rfl : l1 = false := hf
        clear hp ho'
        unfold wpOp
        go_simp
        exact .inl ⟨l0, true, l2, l3, l4, l5, l6, l7, l8, l9, l10, l11, F, T, rfl, rfl, hb, hF, hT, hne, kF, kT⟩
      | 2, _ =>
        obtain rfl : l2 = false := hf
        cases ho'
        obtain rfl : l0 = true := hp ⟨0, .data⟩ (by simp) rfl
        obtain rfl : l1 = true := hp ⟨1, .data⟩ (by simp) rfl
        clear hp
        unfold wpOp
        simp only [onlyIf_true]
        go_simp
        refine .inl ((CA.out w' hb).mono ?_)
        rintro e w5 ⟨rfl, hb5⟩
        exact ⟨true, true, true, l3, l4, l5, l6, l7, l8, l9, l10, l11, F, T, rfl, rfl, hb.trans (hb5.mono hb.size), fun h => ⟨(hF h).1, (hb5.block _ (Array.getElem?_eq_some_iff.1 (hF h).2).1).trans (hF h).2⟩, fun h => ⟨(hT h).1, (hb5.block _ (Array.getElem?_eq_some_iff.1 (hT h).2).1).trans (hT h).2⟩, hne, kF, kT⟩
      | 3, _ =>
        obtain rfl : l3 = false := hf
        clear hp ho'
        unfold wpOp
        go_simp
        exact .inl ⟨l0, l1, l2, true, l4, l5, l6, l7, l8, l9, l10, l11, F, T, rfl, rfl, hb, hF, hT, hne, kF, kT⟩
      | 4, _ =>
        obtain rfl : l4 = false := hf
        cases ho'
        obtain rfl : l2 = true := hp ⟨2, .data⟩ (by simp) rfl
        obtain rfl : l3 = true := hp ⟨3, .data⟩ (by simp) rfl
        clear hp
        unfold wpOp
        simp only [onlyIf_true]
        go_simp
        exact .inl ⟨l0, l1, true, true, true, l5, l6, l7, l8, l9, l10, l11, F, T, rfl, rfl, hb, hF, hT, hne, kF, kT⟩
      | 5, _ =>
        obtain rfl : l5 = false := hf
        clear hp ho'
        unfold wpOp
        go_simp
        exact .inl ⟨l0, l1, l2, l3, l4, true, l6, l7, l8, l9, l10, l11, F, T, rfl, rfl, hb, hF, hT, hne, kF, kT⟩
      | 6, _ =>
        obtain rfl : l6 = false := hf
        clear hp ho'
        unfold wpOp
        go_simp
        exact .inl ⟨l0, l1, l2, l3, l4, l5, true, l7, l8, l9, l10, l11, F, T, rfl, rfl, hb, hF, hT, hne, kF, kT⟩
      | 7, _ =>
        obtain rfl : l7 = false := hf
        cases ho'
        obtain rfl : l5 = true := hp ⟨5, .data⟩ (by simp) rfl
        obtain rfl : l6 = true := hp ⟨6, .data⟩ (by simp) rfl
        clear hp
        unfold wpOp
        simp only [onlyIf_true]
        go_simp
        refine .inl ((CB.out w' hb).mono ?_)
        rintro e w5 ⟨rfl, hb5⟩
        exact ⟨l0, l1, l2, l3, l4, true, true, true, l8, l9, l10, l11, F, T, rfl, rfl, hb.trans (hb5.mono hb.size), fun h => ⟨(hF h).1, (hb5.block _ (Array.getElem?_eq_some_iff.1 (hF h).2).1).trans (hF h).2⟩, fun h => ⟨(hT h).1, (hb5.block _ (Array.getElem?_eq_some_iff.1 (hT h).2).1).trans (hT h).2⟩, hne, kF, kT⟩
      | 8, _ =>
        obtain rfl : l8 = false := hf
        obtain rfl : l10 = false := by
          cases l10 with
          | false => rfl
          | true => exact absurd (kF rfl) (by decide)
        clear hp ho'
        unfold wpOp
        go_simp
        exact .inl ⟨l0, l1, l2, l3, l4, l5, l6, l7, true, l9, false, l11, w'.heap.size, T, rfl, rfl, hb.alloc hb.size _, fun _ => ⟨hb.size, heap_alloc_new _ _⟩, fun h => ⟨(hT h).1, (gNe _ _ _ (by have := (Array.getElem?_eq_some_iff.1 (hT h).2).1; omega)).trans (hT h).2⟩, fun _ h => (by have := (Array.getElem?_eq_some_iff.1 (hT h).2).1; omega), fun h => (by cases h), kT⟩
      | 9, _ =>
        obtain rfl : l9 = false := hf
        obtain rfl : l11 = false := by
          cases l11 with
          | false => rfl
          | true => exact absurd (kT rfl) (by decide)
        clear hp ho'
        unfold wpOp
        go_simp
        exact .inl ⟨l0, l1, l2, l3, l4, l5, l6, l7, l8, true, l10, false, F, w'.heap.size, rfl, rfl, hb.alloc hb.size _, fun h => ⟨(hF h).1, (gNe _ _ _ (by have := (Array.getElem?_eq_some_iff.1 (hF h).2).1; omega)).trans (hF h).2⟩, fun _ => ⟨hb.size, heap_alloc_new _ _⟩, fun h _ => (by have := (Array.getElem?_eq_some_iff.1 (hF h).2).1; omega), kF, fun h => (by cases h)⟩
      | 10, _ =>
        obtain rfl : l10 = false := hf
        cases ho'
        obtain rfl : l8 = true := hp ⟨8, .data⟩ (by simp) rfl
        obtain rfl : l4 = true := hp ⟨4, .data⟩ (by simp) rfl
        clear hp
        obtain ⟨f1, f2⟩ := hF rfl
        simp only [Bool.false_eq_true, if_false] at f2
        have x0 := cellH f2 0
        have xf := freeH f2
        simp at x0
        unfold wpOp
        simp only [onlyIf_true]
        go_simp
        exact .inl ⟨l0, l1, l2, l3, true, l5, l6, l7, true, l9, true, l11, F, T, rfl, rfl, (hb.setCell (p := ⟨F, 0, none⟩) (by simpa using f1) _), fun _ => ⟨f1, (heap_same f2 0 _)⟩, fun h => ⟨(hT h).1, (heap_other _ _ _ _ _ (fun e => hne rfl h e.symm)).trans ((hT h).2)⟩, hne, fun _ => rfl, kT⟩
      | 11, _ =>
        obtain rfl : l11 = false := hf
        cases ho'
        obtain rfl : l9 = true := hp ⟨9, .data⟩ (by simp) rfl
        obtain rfl : l7 = true := hp ⟨7, .data⟩ (by simp) rfl
        clear hp
        obtain ⟨f1, f2⟩ := hT rfl
        simp only [Bool.false_eq_true, if_false] at f2
        have x0 := cellH f2 0
        have xf := freeH f2
        simp at x0
        unfold wpOp
        simp only [onlyIf_true]
        go_simp
        exact .inl ⟨l0, l1, l2, l3, l4, l5, l6, true, l8, true, l10, true, F, T, rfl, rfl, (hb.setCell (p := ⟨T, 0, none⟩) (by simpa using f1) _), fun h => ⟨(hF h).1, (heap_other _ _ _ _ _ (fun e => hne h rfl e)).trans ((hF h).2)⟩, fun _ => ⟨f1, (heap_same f2 0 _)⟩, hne, kF, fun _ => rfl⟩
  intro F T W HW
  show K _ _
  apply hK
  clear hK
  have hbw := HB0.out.trans (HW.out.1.mono HB0.out.size)
  have hlt1 : w.heap.size ≤ W1.heap.size := HB0.out.size
  obtain ⟨q0, q1, q2, r0, r1, s0, s1⟩ := HRD.out W HW.out.1
  have hws : w.heap.size + 2 < W.heap.size := by obtain ⟨_, _, m2, h, _⟩ := HA.out W HW.out.1; exact h
  have HBW := Lib.hid hbw
  have ha0 := onB_ok ha
  have hb0 := onB_ok hb
  have hm0 := vmB_ok hm
  have HC1 := Lib.hid (fun w' => HCR.out w' (by omega) (by omega))
  have hbh : Below W.heap.size W (W.alloc (.cells #[.slice none 0 0] 22)) := (Below.refl _ W).alloc (Nat.le_refl _) _
  have HBH := Lib.hid (hbw.trans (hbh.mono hbw.size))
  have HH0 : Hid ((W.alloc (.cells #[.slice none 0 0] 22)).heap[W.heap.size]? = some (.cells #[.slice none 0 0] 22 (0, 0))) := Lib.hid (heap_alloc_new _ _)
  have hFT := HW.out
  have HF0 := Lib.hid ((hbh.block _ (Array.getElem?_eq_some_iff.1 hFT.2.2.2.2.1).1).trans hFT.2.2.2.2.1)
  have HT0 := Lib.hid ((hbh.block _ (Array.getElem?_eq_some_iff.1 hFT.2.2.2.2.2).1).trans hFT.2.2.2.2.2)
  have hFl := (Array.getElem?_eq_some_iff.1 hFT.2.2.2.2.1).1
  have hTl := (Array.getElem?_eq_some_iff.1 hFT.2.2.2.2.2).1
  have hFg := hFT.2.1
  have hTg := hFT.2.2.1
  have hl0 : w.heap.size < W.heap.size := by omega
  have hl1 : w.heap.size + 1 < W.heap.size := by omega
  have hn0 : w.heap.size ≠ W.heap.size := by omega
  have hn1 : w.heap.size + 1 ≠ W.heap.size := by omega
  have hn2 : w.heap.size + 2 ≠ W.heap.size := by omega
  clear ha0 hb0 hm0 hbw hbh hFT
  go_wp2_with fail
  refine (HC1.out _).mono ?_
  rintro e w3 ⟨X, M2, F2, T2, rfl, hb3, hst3⟩
  have HB3 := Lib.hid (HBH.out.trans (hb3.mono HBH.out.size))
  have HH3 : Hid (w3.heap[W.heap.size]? = some (.cells #[.slice none 0 0] 22 (0, 0)) ∧ W.heap.size < w3.heap.size) := Lib.hid (by
    have h1 := (Array.getElem?_eq_some_iff.1 HH0.out).1
    exact ⟨(hb3.block _ h1).trans HH0.out, Nat.lt_of_lt_of_le h1 hb3.size⟩)
  have HF3 := Lib.hid ((hb3.block _ (Array.getElem?_eq_some_iff.1 HF0.out).1).trans HF0.out)
  have HT3 := Lib.hid ((hb3.block _ (Array.getElem?_eq_some_iff.1 HT0.out).1).trans HT0.out)
  have HI : Hid (CrI w.heap.size X M2 F2 T2 wd hg o g a b w3) := Lib.hid ⟨hst3, HG.out.keep HB3.out.size (fun k C t fr hk hn => HB3.out.block k hn)⟩
  clear hb3 hst3 q0 q1 q2 r0 r1 s0 s1
  unfold crV
  go_wp2_with fail
  refine wpIn_wide.1 (?_ : Code.wpIn Fence.wide 7 _ _ _ _ _)
  refine rangeN (n := 7) (gf := 73) (lb := #[.pointer (some ⟨X, 0, none⟩), .pointer (some ⟨M2, 0, none⟩), .pointer (some ⟨F2, 0, none⟩), .pointer (some ⟨T2, 0, none⟩)]) rfl (enters_of Try.func73 (by kernel_rfl) rfl)
    (crossings1_seq 6 w.heap.size X M2 F2 T2 wd hg o g a b hm ha hb) ?st (fun A B h => KpP.of_below h) (fun _ _ _ h k => h.trans k) (fun Y l ob ob' _ h hc _ => KpP.putObj h hc) (fun _ => rfl)
    (fun pre Y => RgQ 22 3 1 w3 w3.heap.size W.heap.size pre.length (pre.map fun x => Value.int .i64 (liftI (ha' + up) hq x)) Y)
    (fun _ _ _ => False) ?i (fun _ _ _ _ _ h _ _ => h) ?ii (fun _ _ _ _ h _ => h) ?h0
    (fun x a' Y => ∃ p, a' = { tmps := #[.agg #[.int .i64 wd, .int .i64 hg, o], .agg #[.int .i64 a.1, .int .i64 a.2], .int .i64 up, .agg #[.int .i64 b.1, .int .i64 b.2], .pointer (some ⟨w.heap.size, 0, none⟩), .pointer (some ⟨w.heap.size + 1, 0, none⟩), undef, .pointer (some ⟨w.heap.size + 2, 0, none⟩), .int .i64 0, .pointer (some ⟨F, 0, none⟩), .pointer (some ⟨T, 0, none⟩), .pointer (some ⟨W.heap.size, 0, none⟩), .pointer (some ⟨p, 0, none⟩), undef, .agg #[.int .i64 wd, .int .i64 hg, o], .agg #[.int .i64 a.1, .int .i64 a.2], .int .i64 ha', .int .i64 up, .int .i64 (ha' + up), .agg #[.int .i64 wd, .int .i64 hg, o], .agg #[.int .i64 b.1, .int .i64 b.2], .int .i64 hq, .agg #[.int .i64 wd, .int .i64 hg, o], .agg #[.int .i64 a.1, .int .i64 a.2], .agg #[.int .i64 b.1, .int .i64 b.2], .func (.func 73) #[] #[.pointer (some ⟨X, 0, none⟩), .pointer (some ⟨M2, 0, none⟩), .pointer (some ⟨F2, 0, none⟩), .pointer (some ⟨T2, 0, none⟩)], .agg #[.int .i64 x.ax, .int .i64 x.k, .int .i64 x.n, .int .i64 x.g], undef, undef, undef, undef, undef, undef, undef, undef, undef, undef, undef, undef, undef, undef, undef, undef, undef, undef, undef, undef, undef, undef], defers := [] } ∧ Y.heap[p]? = some (.cells #[.int .i64 x.ax, .int .i64 x.k, .int .i64 x.n, .int .i64 x.g] 102 (0, 0)) ∧ w3.heap.size ≤ p) ?hv ?assign ?body ?done (fun _ _ _ _ _ _ h => h.elim)
  case st => exact fun ob ob' => HI.out.below (((Below.refl _ w3).alloc (Nat.le_refl _) ob).alloc (by simp) ob')
  case i => exact fun s A B row h hg hr => h.grown HH3.out.2 hg hr
  case ii => exact fun s A B h k => h.own HH3.out.2 k (by omega) (by decide)
  case h0 => exact ⟨⟨fun _ _ _ => rfl, Nat.le_refl _, rfl, rfl, rfl⟩, _, HH3.out.1, World.ownsRow_nil _ _ _ _⟩
  case hv =>
    rintro x a' _ A B row ⟨p, h1, h2, h3⟩ hg hr
    refine ⟨p, h1, (hg.block p (Array.getElem?_eq_some_iff.1 h2).1 (fun q => ?_)).trans h2, h3⟩
    obtain ⟨_, ob, ho, hoc⟩ := hr p q.symm
    rw [h2] at ho; cases ho; cases hoc
  case assign =>
    intro l' pre x Y K hI hK
    unfold mtV
    gi_wp2
    exact hK _ _ ((Below.refl _ Y).alloc (Nat.le_refl _) _) ⟨Y.heap.size, rfl, heap_alloc_new _ _, hI.1.2.1⟩
  case body =>
    rintro l' pre x a' Y hR ⟨p, rfl, hp, hpn⟩ hlt
    have hxm : x ∈ mts g wd a b := hlt.subset (by simp)
    obtain ⟨_, k1, k2, k3, g1, g2⟩ := mts_bd hm ha hb hxm
    obtain ⟨b1, b2⟩ := part_bd ⟨k1, k2, k3⟩ hua hub
    have CP : Hid (∀ w', Below Y.heap.size Y w' → Calls Try.prog 78 #[.agg #[.int .i64 x.ax, .int .i64 x.k, .int .i64 x.n, .int .i64 x.g], .int .i64 (ha' + up), .int .i64 hq] w' fun e w'' => e = .returned (.int .i64 (partI x (ha' + up) hq)) ∧ Below Y.heap.size Y w'') := Lib.hid (fun w' h =>
      (part_any x (ha' + up) hq w' ⟨by omega, by omega, k3⟩ ⟨hua.1, by omega⟩ ⟨hub.1, by omega⟩).mono fun e w'' ⟨he, hh⟩ => ⟨he, h.trans (hh.mono h.size)⟩)
    have hlen96 := mts_len hm ha hb
    have hln : pre.length < 96 := by
      have := hlt.length_le
      simp at this; omega
    have hYF := (hR.1.1 F (by have := HH3.out.2; omega) (by omega)).trans HF3.out
    have hYT := (hR.1.1 T (by have := HH3.out.2; omega) (by omega)).trans HT3.out
    have hY3 := hR.1.2.1
    have K0 : Hid (∀ W', Below Y.heap.size Y W' → W'.cell? ⟨p, 0, none⟩ = some (.int .i64 x.ax) ∧ W'.cell? ⟨p, 1, none⟩ = some (.int .i64 x.k) ∧ W'.cell? ⟨p, 2, none⟩ = some (.int .i64 x.n) ∧ W'.cell? ⟨p, 3, none⟩ = some (.int .i64 x.g) ∧
        W'.cell? ⟨F, 0, none⟩ = some (.int .i64 (ha' + up)) ∧ W'.cell? ⟨T, 0, none⟩ = some (.int .i64 hq)) := Lib.hid (fun W' h => by
      have hp' := (h.block _ (Array.getElem?_eq_some_iff.1 hp).1).trans hp
      have hF' := (h.block _ (Array.getElem?_eq_some_iff.1 hYF).1).trans hYF
      have hT' := (h.block _ (Array.getElem?_eq_some_iff.1 hYT).1).trans hYT
      exact ⟨cellH hp' 0, cellH hp' 1, cellH hp' 2, cellH hp' 3, cellH hF' 0, cellH hT' 0⟩)
    have HLI : Hid (liftI (ha' + up) hq x = (x.g - partI x (ha' + up) hq + x.k - 1).tdiv x.k) := Lib.hid rfl
    obtain ⟨Pv, hPv⟩ : ∃ q, partI x (ha' + up) hq = q := ⟨_, rfl⟩
    rw [hPv] at CP HLI b1 b2
    have f1 : IntKind.i64.wrap (x.g - Pv) = x.g - Pv := IntWalk.i64_in _ (by omega)
    have f2 : IntKind.i64.wrap (x.g - Pv + x.k) = x.g - Pv + x.k := IntWalk.i64_in _ (by omega)
    have f3 : IntKind.i64.wrap (x.g - Pv + x.k - 1) = x.g - Pv + x.k - 1 := IntWalk.i64_in _ (by omega)
    have hqd : -10000000 ≤ (x.g - Pv + x.k - 1).tdiv x.k ∧ (x.g - Pv + x.k - 1).tdiv x.k ≤ 10000000 := by
      have h1 := Int.natAbs_tdiv_le_natAbs (x.g - Pv + x.k - 1) x.k
      omega
    have f4 : IntKind.i64.wrap ((x.g - Pv + x.k - 1).tdiv x.k) = (x.g - Pv + x.k - 1).tdiv x.k := IntWalk.i64_in _ (by omega)
    have u1 : wrap64 (x.g - Pv) = x.g - Pv := w64 (by omega)
    have u2 : wrap64 (x.g - Pv + x.k) = x.g - Pv + x.k := w64 (by omega)
    have u3 : wrap64 (x.g - Pv + x.k - 1) = x.g - Pv + x.k - 1 := w64 (by omega)
    have u4 : wrap64 ((x.g - Pv + x.k - 1).tdiv x.k) = (x.g - Pv + x.k - 1).tdiv x.k := w64 (by omega)
    have hz1 : ¬ x.k = 0 := by omega
    obtain ⟨Qv, hQv⟩ : ∃ q, (x.g - Pv + x.k - 1).tdiv x.k = q := ⟨_, rfl⟩
    rw [hQv] at HLI f4 u4
    have HR0 := Lib.hid hR
    have HP0 := Lib.hid hp
    clear hR hp hxm k1 k2 k3 g1 g2 b1 b2 hPv hlt hYF hYT hqd hlen96
    gi_wp2
    refine wpIn_region_turn (lax_round l') 6 (fun _ w' => Below Y.heap.size Y w') (by kernel_rfl) (by kernel_rfl) (by kernel_rfl) ((Below.refl _ Y).drew) ?_
    simp only [List.take_succ_cons, List.take_zero, List.drop_succ_cons, List.drop_zero]
    iterate 6
      (first
        | (apply turnC_step (by rfl); (intro w' hw'; go_simp; exact CP.out w' hw'))
        | (apply turnC_step (by rfl); (intro w' hw'; obtain ⟨q0, q1, q2, q3, q4, q5⟩ := K0.out w' hw'; go_simp; first | exact ⟨hw', rfl⟩ | exact rfl)))
      simp only [Act.put, List.setIfInBounds_toArray, List.set_cons_succ, List.set_cons_zero]
    intro listed w9 _ hw9
    have HR9 := Lib.hid (HR0.out.below HH3.out.2 hw9)
    have HP9 := Lib.hid ((hw9.block _ (Array.getElem?_eq_some_iff.1 HP0.out).1).trans HP0.out)
    have HW9 := Lib.hid hw9
    clear K0 CP hw9
    obtain ⟨hbse, v, hv, hrow⟩ := HR9.out
    obtain ⟨i0, hi0, hz0, hz1, hz2⟩ := info_parts info_i
    have K2 : Hid (∀ W', (W' = w9 ∨ W' = w9.alloc (.cells #[.int .i64 Qv] 3)) → W'.cell? ⟨p, 1, none⟩ = some (.int .i64 x.k) ∧ W'.cell? ⟨W.heap.size, 0, none⟩ = some v) := Lib.hid (by
      have h1 := (Array.getElem?_eq_some_iff.1 HP9.out).1
      have h2 := hv.cell
      have h3 : W.heap.size < w9.heap.size := by have := HH3.out.2; have := hbse.2.1; omega
      rintro W' (rfl | rfl)
      · exact ⟨cellH HP9.out 1, h2⟩
      · exact ⟨cellH ((gNe _ _ _ (by omega)).trans HP9.out) 1, (World.cell?_of_block (a := ⟨W.heap.size, 0, none⟩) (gNe _ _ _ (by simp only; omega))).trans h2⟩)
    have HROW := Lib.hid hrow
    have HVV := Lib.hid hv
    have HBSE := Lib.hid hbse
    have hb9 : w3.heap.size ≤ w9.heap.size := hbse.2.1
    have hw3s := HB3.out.size
    clear hrow hv hbse
    gi_wp2
    refine wpIn_region_one (lax_round l') 12 11 (w9.alloc (.cells #[.int .i64 Qv] 3)) (by kernel_rfl) (by kernel_rfl) (by kernel_rfl) (by decide) ?_
    simp only [List.take_succ_cons, List.take_zero, List.drop_succ_cons, List.drop_zero]
    iterate 11
      (apply wpOne_step (by rfl) (by decide); (intro W' hW' m; obtain ⟨q0, q1⟩ := K2.out W' hW'; go_simp; exact ⟨⟨_, rfl⟩, rfl⟩))
      simp only [Act.put, List.setIfInBounds_toArray, List.set_cons_succ, List.set_cons_zero]
    (apply wpOne_turn (by rfl); (intro m; go_simp; exact ⟨⟨_, rfl⟩, rfl⟩))
    simp only [Act.put, List.setIfInBounds_toArray, List.set_cons_succ, List.set_cons_zero]
    intro kd
    have hrk : ((w9.alloc (.cells #[.int .i64 Qv] 3)).drewN kd).ownsRow w3.heap.size 3 1 v pre.length (pre.map fun x => Value.int .i64 (liftI (ha' + up) hq x)) := HROW.out.alloc _
    have hnw : ∀ (j : Nat) (u : Value), [Value.int .i64 Qv][j]? = some u → ((w9.alloc (.cells #[.int .i64 Qv] 3)).drewN kd).cell? ((⟨w9.heap.size, 0, none⟩ : Addr).add j) = some u := fun j u h => cell_one' w9 _ _ j u h
    clear K2
    gi_wp2_with (gi_at_builtin; refine wpListIn_append_own_at _ rfl _ _ 22 rfl w3.heap.size 3 i0 (.int .i64 0) 1 8 Try.underlying22 hi0 hz0 hz1 hz2 rfl (by decide) _ _ _ rfl hrk ⟨w9.heap.size, 0, none⟩ 1 1 [.int .i64 Qv] rfl rfl hnw (by simp [Value.oneCell']) (by unfold maxLen; omega) (by omega) (by simp; omega) ?_; intro v' w10 hown' hgrow _ hat; obtain ⟨g', cap', rfl⟩ := ownsRow_succ hown'; obtain ⟨r1, r2, r3, r4⟩ := RgQ.appended (Y := w9.drewN kd) (o2 := .cells #[.int .i64 Qv] 3) HBSE.out HVV.out HROW.out HH3.out.2 hown' hgrow (pR w.heap.size) (by unfold pR; intro h; rcases h with h | h | h <;> first | omega | exact absurd h (by decide)) (by unfold pR; intro q hq' h; rcases h with h | h | h <;> first | omega | exact absurd h (by decide)); have hc1 := r4.cell; have hf1 := r4.frozen)
    refine ⟨((below_keeps HW9.out).trans (⟨Nat.le_refl _, fun _ _ _ h _ => h⟩ : KeepsFrom w3.heap.size w9 (w9.drewN kd))).trans r1, ((KpP.of_below HW9.out).trans (⟨Nat.le_refl _, fun _ _ _ _ h _ => rfl⟩ : KpP _ w9 (w9.drewN kd))).trans r2, ?_⟩
    show RgQ _ _ _ _ _ _ (pre ++ [x]).length ((pre ++ [x]).map fun x => Value.int .i64 (liftI (ha' + up) hq x)) _
    rw [List.length_append, List.map_append]
    simp only [List.map_cons, List.map_nil, HLI.out]
    exact r3
  case done =>
    rintro D Y hD hR hK
    obtain ⟨hbse, v, hv, hrow⟩ := hR
    have hrow' : Y.ownsRow w3.heap.size 3 1 v ((mts g wd a b).map (liftI (ha' + up) hq)).length (((mts g wd a b).map (liftI (ha' + up) hq)).map (Value.int .i64 ·)) := by
      rw [List.length_map, List.map_map]; exact hrow
    have hlen96 := mts_len hm ha hb
    have HGR := Lib.hid (greatest_any 0 v _ Y (INRow.of_own hrow') (by rw [List.length_map]; omega))
    have hc := hv.cell
    have hBY : Below w.heap.size w Y := ⟨hbse.2.2.1.trans HB3.out.os, hbse.2.2.2.1.trans HB3.out.tape, hbse.2.2.2.2.trans HB3.out.output, by have := HB3.out.size; have := hbse.2.1; omega, fun b' hb' => (hbse.1 b' (by have := HB3.out.size; omega) (by omega)).trans (HB3.out.block b' hb')⟩
    have HBY := Lib.hid hBY
    have HK := Lib.hid hK
    have hDw : w.heap.size ≤ D := by have := HB3.out.size; omega
    clear hbse hv hrow hrow' hlen96 hBY hK
    simp only [Exit.inBlock, Exit.then]
    go_wp2_with fail
    refine HGR.out.mono ?_
    rintro e w10 ⟨rfl, hb10⟩
    have HK2 := Lib.hid ((hb10.block _ (Array.getElem?_eq_some_iff.1 HK.out).1).trans HK.out)
    have HB10 := Lib.hid (HBY.out.trans (hb10.mono HBY.out.size))
    rw [← HN.out]
    clear hb10 hc
    go_wp2_with fail
    try rw [Exit.noGoto_ret]
    exact leaves_marks5 (F := Fence.wide) (n := 7) w.heap.size [D] _ (by simp) (fun D' hD' => by
      obtain rfl : D' = D := by simpa using hD'
      exact ⟨hDw, HK2.out⟩) (fun W' hk hb' => ⟨_, by simp [results, Try.results50, go_sem], rfl, HB10.out.trans hb'⟩)
end Go.Proofs.Ytnacgogcbbpjmaa

/-! Needed and Tall of package ridge. -/
set_option linter.unusedVariables false
set_option linter.unusedSimpArgs false
namespace Go.Proofs.Ytnacgogcbbpjmaa
open Go Go.RowKit

set_option maxRecDepth 100000 in
set_option maxHeartbeats 4000000 in
theorem Needed_any (wd hg : Int) (o : Value) (g : List Int) (a b : Pl) (up : Int) (w : World) (hv : INRow w o g) (hl : g.length ≤ 9223372036854775807) :
    Calls Try.prog 20 #[mpV wd hg o, plV a, .int .i64 up, plV b] w fun e w' => e = .returned (.tuple #[.int .i64 (if vlB wd hg g a b [up] = true then ndI g wd a up b else 0), .int .i64 (lnE wd hg g a b [up])]) ∧ Below w.heap.size w w' := by
  have HC1 := Lib.hid (fun w' (h : Below w.heap.size w w') v (hu : INRow w' v [up]) => validLine_any wd hg o g a b v [up] w' (hv.keep h) hl hu (by simp))
  have HV := Lib.hid hv
  clear hv hl
  have HV2 : Hid (lnE wd hg g a b [up] = if vlB wd hg g a b [up] = true then 0 else 1) := Lib.hid rfl
  unfold mpV plV at HC1
  have HA := Lib.hid (fun W' => three_cells w #[.int .i64 wd, .int .i64 hg, o] #[.int .i64 a.1, .int .i64 a.2] #[.int .i64 b.1, .int .i64 b.2] 24 32 32 (W := W'))
  have HB0 := Lib.hid ((((Below.refl _ w).alloc (Nat.le_refl w.heap.size) (.cells #[.int .i64 wd, .int .i64 hg, o] 24)).alloc (by simp) (.cells #[.int .i64 a.1, .int .i64 a.2] 32)).alloc (by simp; omega) (.cells #[.int .i64 b.1, .int .i64 b.2] 32))
  obtain ⟨W1, hW1⟩ : ∃ W1, ((w.alloc (.cells #[.int .i64 wd, .int .i64 hg, o] 24)).alloc (.cells #[.int .i64 a.1, .int .i64 a.2] 32)).alloc (.cells #[.int .i64 b.1, .int .i64 b.2] 32) = W1 := ⟨_, rfl⟩
  have HSZ1 : Hid (W1.heap.size = w.heap.size + 3) := Lib.hid (by rw [← hW1]; simp)
  rw [hW1] at HA HB0
  have HW1 := Lib.hid hW1
  have ead : w.heap.size + 1 + 1 = w.heap.size + 2 := rfl
  clear hW1
  by_cases hvl : vlB wd hg g a b [up] = true
  case neg =>
    have hvl' : vlB wd hg g a b [up] = false := by simpa using hvl
    rw [hvl'] at HC1 HV2 ⊢
    have HN : Hid (lnE wd hg g a b [up] = 1) := Lib.hid (by rw [HV2.out]; rfl)
    rw [HN.out, if_neg (by decide)]
    clear hvl hvl'
    unfold mpV plV
    go_enter Try.func20, Try.ntmps20
    go_wp2_with fail
    rw [HW1.out]
    obtain ⟨m0, m1, m2, _, hw1⟩ := HA.out W1 (Below.refl _ _)
    have q0 := cellH m0 0
    have q1 := cellH m0 1
    have q2 := cellH m0 2
    have r0 := cellH m1 0
    have r1 := cellH m1 1
    have s0 := cellH m2 0
    have s1 := cellH m2 1
    simp at q0 q1 q2 r0 r1 s0 s1
    clear m0 m1 m2
    go_wp2_with fail
    have hbs : Below W1.heap.size W1 (W1.alloc (.cells #[.int .i64 up] 3)) := (Below.refl _ W1).alloc (Nat.le_refl _) _
    have HBS := Lib.hid (HB0.out.trans (hbs.mono HB0.out.size))
    clear hbs
    have hr2 : INRow (W1.alloc (.cells #[.int .i64 up] 3)) (.slice (some ⟨w.heap.size + 2 + 1, 0, none⟩) 1 1) [up] := by
      have := ints1 W1 up
      rw [HSZ1.out] at this; exact this
    refine (HC1.out _ HBS.out _ hr2).mono ?_
    rintro e w2 ⟨rfl, hb2⟩
    have HB2 := Lib.hid (HBS.out.trans (hb2.mono HBS.out.size))
    clear hb2 q0 q1 q2 r0 r1 s0 s1
    go_wp2_with fail
    go_ret2
    exact ⟨rfl, HB2.out⟩
  rw [hvl] at HC1 HV2
  rw [if_pos hvl]
  obtain ⟨hm, ha, hb, ht⟩ := vlB_ok hvl
  have hu := ht up (by simp)
  have HC2 := Lib.hid (fun w' (h : Below w.heap.size w w') => needed_any wd hg o g a b up w' (HV.out.keep h) hm ha hb hu)
  unfold mpV plV at HC2
  have HN : Hid (lnE wd hg g a b [up] = 0) := Lib.hid (by rw [HV2.out]; rfl)
  rw [HN.out]
  obtain ⟨fb, hfb⟩ : ∃ x, ndI g wd a up b = x := ⟨_, rfl⟩
  rw [hfb] at HC2 ⊢
  clear hvl hm ha hb ht hu hfb
  unfold mpV plV
  go_enter Try.func20, Try.ntmps20
  go_wp2_with fail
  rw [HW1.out]
  obtain ⟨m0, m1, m2, _, hw1⟩ := HA.out W1 (Below.refl _ _)
  have q0 := cellH m0 0
  have q1 := cellH m0 1
  have q2 := cellH m0 2
  have r0 := cellH m1 0
  have r1 := cellH m1 1
  have s0 := cellH m2 0
  have s1 := cellH m2 1
  simp at q0 q1 q2 r0 r1 s0 s1
  clear m0 m1 m2
  go_wp2_with fail
  have hbs : Below W1.heap.size W1 (W1.alloc (.cells #[.int .i64 up] 3)) := (Below.refl _ W1).alloc (Nat.le_refl _) _
  have HBS := Lib.hid (HB0.out.trans (hbs.mono HB0.out.size))
  have hr2 : INRow (W1.alloc (.cells #[.int .i64 up] 3)) (.slice (some ⟨w.heap.size + 2 + 1, 0, none⟩) 1 1) [up] := by
    have := ints1 W1 up
    rw [HSZ1.out] at this; exact this
  refine (HC1.out _ HBS.out _ hr2).mono ?_
  rintro e w2 ⟨rfl, hb2⟩
  have HD2 := Lib.hid (hbs.trans (hb2.mono hbs.size))
  clear q0 q1 q2 r0 r1 s0 s1
  obtain ⟨m0, m1, m2, _, hw2⟩ := HA.out w2 HD2.out
  have q0 := cellH m0 0
  have q1 := cellH m0 1
  have q2 := cellH m0 2
  have r0 := cellH m1 0
  have r1 := cellH m1 1
  have s0 := cellH m2 0
  have s1 := cellH m2 1
  simp at q0 q1 q2 r0 r1 s0 s1
  clear m0 m1 m2
  have HB2 := Lib.hid hw2
  clear hb2 hbs hw1 hw2
  go_wp2_with fail
  refine (HC2.out _ HB2.out).mono ?_
  rintro e w3 ⟨rfl, hb3⟩
  have HB3 := Lib.hid (HB2.out.trans (hb3.mono HB2.out.size))
  clear hb3
  clear q0 q1 q2 r0 r1 s0 s1
  go_wp2_with fail
  go_ret2
  exact ⟨rfl, HB3.out⟩
set_option maxRecDepth 100000 in
set_option maxHeartbeats 4000000 in
theorem Tall_any (wd hg : Int) (o : Value) (g : List Int) (a b : Pl) (up : Int) (w : World) (hv : INRow w o g) (hl : g.length ≤ 9223372036854775807) :
    Calls Try.prog 21 #[mpV wd hg o, plV a, plV b, .int .i64 up] w fun e w' => e = .returned (.tuple #[.int .i64 (if vlB wd hg g a b [up] = true then ndI g wd b up a else 0), .int .i64 (lnE wd hg g a b [up])]) ∧ Below w.heap.size w w' := by
  have HC1 := Lib.hid (fun w' (h : Below w.heap.size w w') v (hu : INRow w' v [up]) => validLine_any wd hg o g a b v [up] w' (hv.keep h) hl hu (by simp))
  have HV := Lib.hid hv
  clear hv hl
  have HV2 : Hid (lnE wd hg g a b [up] = if vlB wd hg g a b [up] = true then 0 else 1) := Lib.hid rfl
  unfold mpV plV at HC1
  have HA := Lib.hid (fun W' => three_cells w #[.int .i64 wd, .int .i64 hg, o] #[.int .i64 a.1, .int .i64 a.2] #[.int .i64 b.1, .int .i64 b.2] 24 32 32 (W := W'))
  have HB0 := Lib.hid ((((Below.refl _ w).alloc (Nat.le_refl w.heap.size) (.cells #[.int .i64 wd, .int .i64 hg, o] 24)).alloc (by simp) (.cells #[.int .i64 a.1, .int .i64 a.2] 32)).alloc (by simp; omega) (.cells #[.int .i64 b.1, .int .i64 b.2] 32))
  obtain ⟨W1, hW1⟩ : ∃ W1, ((w.alloc (.cells #[.int .i64 wd, .int .i64 hg, o] 24)).alloc (.cells #[.int .i64 a.1, .int .i64 a.2] 32)).alloc (.cells #[.int .i64 b.1, .int .i64 b.2] 32) = W1 := ⟨_, rfl⟩
  have HSZ1 : Hid (W1.heap.size = w.heap.size + 3) := Lib.hid (by rw [← hW1]; simp)
  rw [hW1] at HA HB0
  have HW1 := Lib.hid hW1
  have ead : w.heap.size + 1 + 1 = w.heap.size + 2 := rfl
  clear hW1
  by_cases hvl : vlB wd hg g a b [up] = true
  case neg =>
    have hvl' : vlB wd hg g a b [up] = false := by simpa using hvl
    rw [hvl'] at HC1 HV2 ⊢
    have HN : Hid (lnE wd hg g a b [up] = 1) := Lib.hid (by rw [HV2.out]; rfl)
    rw [HN.out, if_neg (by decide)]
    clear hvl hvl'
    unfold mpV plV
    go_enter Try.func21, Try.ntmps21
    go_wp2_with fail
    rw [HW1.out]
    obtain ⟨m0, m1, m2, _, hw1⟩ := HA.out W1 (Below.refl _ _)
    have q0 := cellH m0 0
    have q1 := cellH m0 1
    have q2 := cellH m0 2
    have r0 := cellH m1 0
    have r1 := cellH m1 1
    have s0 := cellH m2 0
    have s1 := cellH m2 1
    simp at q0 q1 q2 r0 r1 s0 s1
    clear m0 m1 m2
    go_wp2_with fail
    have hbs : Below W1.heap.size W1 (W1.alloc (.cells #[.int .i64 up] 3)) := (Below.refl _ W1).alloc (Nat.le_refl _) _
    have HBS := Lib.hid (HB0.out.trans (hbs.mono HB0.out.size))
    clear hbs
    have hr2 : INRow (W1.alloc (.cells #[.int .i64 up] 3)) (.slice (some ⟨w.heap.size + 2 + 1, 0, none⟩) 1 1) [up] := by
      have := ints1 W1 up
      rw [HSZ1.out] at this; exact this
    refine (HC1.out _ HBS.out _ hr2).mono ?_
    rintro e w2 ⟨rfl, hb2⟩
    have HB2 := Lib.hid (HBS.out.trans (hb2.mono HBS.out.size))
    clear hb2 q0 q1 q2 r0 r1 s0 s1
    go_wp2_with fail
    go_ret2
    exact ⟨rfl, HB2.out⟩
  rw [hvl] at HC1 HV2
  rw [if_pos hvl]
  obtain ⟨hm, ha, hb, ht⟩ := vlB_ok hvl
  have hu := ht up (by simp)
  have HC2 := Lib.hid (fun w' (h : Below w.heap.size w w') => needed_any wd hg o g b a up w' (HV.out.keep h) hm hb ha hu)
  unfold mpV plV at HC2
  have HN : Hid (lnE wd hg g a b [up] = 0) := Lib.hid (by rw [HV2.out]; rfl)
  rw [HN.out]
  obtain ⟨fb, hfb⟩ : ∃ x, ndI g wd b up a = x := ⟨_, rfl⟩
  rw [hfb] at HC2 ⊢
  clear hvl hm ha hb ht hu hfb
  unfold mpV plV
  go_enter Try.func21, Try.ntmps21
  go_wp2_with fail
  rw [HW1.out]
  obtain ⟨m0, m1, m2, _, hw1⟩ := HA.out W1 (Below.refl _ _)
  have q0 := cellH m0 0
  have q1 := cellH m0 1
  have q2 := cellH m0 2
  have r0 := cellH m1 0
  have r1 := cellH m1 1
  have s0 := cellH m2 0
  have s1 := cellH m2 1
  simp at q0 q1 q2 r0 r1 s0 s1
  clear m0 m1 m2
  go_wp2_with fail
  have hbs : Below W1.heap.size W1 (W1.alloc (.cells #[.int .i64 up] 3)) := (Below.refl _ W1).alloc (Nat.le_refl _) _
  have HBS := Lib.hid (HB0.out.trans (hbs.mono HB0.out.size))
  have hr2 : INRow (W1.alloc (.cells #[.int .i64 up] 3)) (.slice (some ⟨w.heap.size + 2 + 1, 0, none⟩) 1 1) [up] := by
    have := ints1 W1 up
    rw [HSZ1.out] at this; exact this
  refine (HC1.out _ HBS.out _ hr2).mono ?_
  rintro e w2 ⟨rfl, hb2⟩
  have HD2 := Lib.hid (hbs.trans (hb2.mono hbs.size))
  clear q0 q1 q2 r0 r1 s0 s1
  obtain ⟨m0, m1, m2, _, hw2⟩ := HA.out w2 HD2.out
  have q0 := cellH m0 0
  have q1 := cellH m0 1
  have q2 := cellH m0 2
  have r0 := cellH m1 0
  have r1 := cellH m1 1
  have s0 := cellH m2 0
  have s1 := cellH m2 1
  simp at q0 q1 q2 r0 r1 s0 s1
  clear m0 m1 m2
  have HB2 := Lib.hid hw2
  clear hb2 hbs hw1 hw2
  go_wp2_with fail
  refine (HC2.out _ HB2.out).mono ?_
  rintro e w3 ⟨rfl, hb3⟩
  have HB3 := Lib.hid (HB2.out.trans (hb3.mono HB2.out.size))
  clear hb3
  clear q0 q1 q2 r0 r1 s0 s1
  go_wp2_with fail
  go_ret2
  exact ⟨rfl, HB3.out⟩
end Go.Proofs.Ytnacgogcbbpjmaa
