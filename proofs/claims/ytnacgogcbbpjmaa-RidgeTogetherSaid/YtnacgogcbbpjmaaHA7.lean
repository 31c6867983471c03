/- blocks of package ridge. -/
import Derived.Test.YtnacgogcbbpjmaaHA6
set_option linter.unusedVariables false
set_option linter.unusedSimpArgs false
namespace Go.Proofs.Ytnacgogcbbpjmaa
open Go Go.RowKit

def BkInv (w W1 : World) (wd hg : Int) (o : Value) (a1 a2 b1 b2 up rise ha hq : Int) (listed : Array Bool) (a : Act) (w' : World) : Prop := ∃ (l0 l1 l2 l3 l4 l5 l6 l7 l8 l9 l10 l11 l12 l13 : Bool) (F T : Nat), listed = #[l0, l1, l2, l3, l4, l5, l6, l7, l8, l9, l10, l11, l12, l13] ∧ a = { tmps := #[.agg #[.int .i64 wd, .int .i64 hg, o], .agg #[.int .i64 a1, .int .i64 a2], .int .i64 up, .agg #[.int .i64 b1, .int .i64 b2], .int .i64 rise, .pointer (some ⟨w.heap.size, 0, none⟩), .pointer (some ⟨w.heap.size + 1, 0, none⟩), undef, .pointer (some ⟨w.heap.size + 2, 0, none⟩), undef, .nilFunc, onlyIf l10 (.pointer (some ⟨F, 0, none⟩)), onlyIf l11 (.pointer (some ⟨T, 0, none⟩)), onlyIf l0 (.agg #[.int .i64 wd, .int .i64 hg, o]), onlyIf l1 (.agg #[.int .i64 a1, .int .i64 a2]), onlyIf l2 (.int .i64 ha), onlyIf l3 (.int .i64 up), onlyIf l4 (.int .i64 (ha + up)), onlyIf l5 (.agg #[.int .i64 wd, .int .i64 hg, o]), onlyIf l6 (.agg #[.int .i64 b1, .int .i64 b2]), onlyIf l7 (.int .i64 hq), onlyIf l8 (.int .i64 rise), onlyIf l9 (.int .i64 (hq + rise)), undef], defers := [] } ∧ Below W1.heap.size W1 w' ∧ (l10 = true → W1.heap.size ≤ F ∧ w'.heap[F]? = some (.cells #[.int .i64 (if l12 = true then ha + up else 0)] 3 (0, 0))) ∧ (l11 = true → W1.heap.size ≤ T ∧ w'.heap[T]? = some (.cells #[.int .i64 (if l13 = true then hq + rise else 0)] 3 (0, 0))) ∧ (l10 = true → l11 = true → F ≠ T) ∧ (l12 = true → l10 = true) ∧ (l13 = true → l11 = true)

/-- The closure that blocks returns. -/
def bkV (M A B F T : Nat) : Value := .func (.func 77) #[] #[.pointer (some ⟨M, 0, none⟩), .pointer (some ⟨A, 0, none⟩), .pointer (some ⟨B, 0, none⟩), .pointer (some ⟨F, 0, none⟩), .pointer (some ⟨T, 0, none⟩)]
structure BkSt (M A B F T : Nat) (wd hg : Int) (o : Value) (a b : Pl) (u v : Int) (W : World) : Prop where
  m : W.heap[M]? = some (.cells #[.int .i64 wd, .int .i64 hg, o] 24 (0, 0))
  a : W.heap[A]? = some (.cells #[.int .i64 a.1, .int .i64 a.2] 32 (0, 0))
  b : W.heap[B]? = some (.cells #[.int .i64 b.1, .int .i64 b.2] 32 (0, 0))
  f : W.heap[F]? = some (.cells #[.int .i64 u] 3 (0, 0))
  t : W.heap[T]? = some (.cells #[.int .i64 v] 3 (0, 0))

set_option maxRecDepth 100000 in
set_option maxHeartbeats 4000000 in
theorem blocks_any (wd hg : Int) (o : Value) (g : List Int) (a b : Pl) (up rise : Int) (w : World) (hv : INRow w o g) (hm : vmB wd hg g = true) (ha : onB wd hg a = true) (hb : onB wd hg b = true) (hu : 0 ≤ up ∧ up ≤ 200) (hr : 0 ≤ rise ∧ rise ≤ 200) :
    Calls Try.prog 49 #[mpV wd hg o, plV a, .int .i64 up, plV b, .int .i64 rise] w fun e w' => ∃ M A B F T, e = .returned (bkV M A B F T) ∧ Below w.heap.size w w' ∧ BkSt M A B F T wd hg o a b (hAt g wd a + up) (hAt g wd b + rise) w' := by
  obtain ⟨x1, x2, x3, x4⟩ := on_idx hm ha
  obtain ⟨y1, y2, y3, y4⟩ := on_idx hm hb
  have HCa := Lib.hid (fun w' (h : Below w.heap.size w w') => heightAt_any wd hg o g a w' (hv.keep h) (by omega) ⟨x2, x3⟩ (by omega))
  have HCb := Lib.hid (fun w' (h : Below w.heap.size w w') => heightAt_any wd hg o g b w' (hv.keep h) (by omega) ⟨y2, y3⟩ (by omega))
  have hA := hAt_bd hm ha
  have hB := hAt_bd hm hb
  obtain ⟨ha', hae⟩ : ∃ x, hAt g wd a = x := ⟨_, rfl⟩
  obtain ⟨hq, hbe⟩ : ∃ x, hAt g wd b = x := ⟨_, rfl⟩
  rw [hae] at hA HCa
  rw [hbe] at hB HCb
  rw [hae, hbe]
  clear x1 x2 x3 x4 y1 y2 y3 y4 hae hbe ha hb
  obtain ⟨a1, a2⟩ := a
  obtain ⟨b1, b2⟩ := b
  unfold mpV plV at HCa HCb
  unfold mpV plV
  simp only at HCa HCb ⊢
  have e1 : IntKind.i64.wrap (ha' + up) = ha' + up := IntWalk.i64_in _ (by omega)
  have e2 : IntKind.i64.wrap (hq + rise) = hq + rise := IntWalk.i64_in _ (by omega)
  have w1 : wrap64 (ha' + up) = ha' + up := w64 (by omega)
  have w2 : wrap64 (hq + rise) = hq + rise := w64 (by omega)
  have HA := Lib.hid (fun W' => three_cells w #[.int .i64 wd, .int .i64 hg, o] #[.int .i64 a1, .int .i64 a2] #[.int .i64 b1, .int .i64 b2] 24 32 32 (W := W'))
  have HB0 := Lib.hid ((((Below.refl _ w).alloc (Nat.le_refl w.heap.size) (.cells #[.int .i64 wd, .int .i64 hg, o] 24)).alloc (by simp) (.cells #[.int .i64 a1, .int .i64 a2] 32)).alloc (by simp; omega) (.cells #[.int .i64 b1, .int .i64 b2] 32))
  obtain ⟨W1, hW1⟩ : ∃ W1, ((w.alloc (.cells #[.int .i64 wd, .int .i64 hg, o] 24)).alloc (.cells #[.int .i64 a1, .int .i64 a2] 32)).alloc (.cells #[.int .i64 b1, .int .i64 b2] 32) = W1 := ⟨_, rfl⟩
  rw [hW1] at HA HB0
  have HW1 := Lib.hid hW1
  have ead : w.heap.size + 1 + 1 = w.heap.size + 2 := rfl
  clear hW1 hv hA hB
  go_enter Try.func49, Try.ntmps49
  go_wp2_with fail
  rw [HW1.out]
  rename_i Q K hK
  have HRD : Hid (∀ W', Below W1.heap.size W1 W' → W'.cell? ⟨w.heap.size, 0, none⟩ = some (.int .i64 wd) ∧ W'.cell? ⟨w.heap.size, 1, none⟩ = some (.int .i64 hg) ∧ W'.cell? ⟨w.heap.size, 2, none⟩ = some o ∧ W'.cell? ⟨w.heap.size + 1, 0, none⟩ = some (.int .i64 a1) ∧ W'.cell? ⟨w.heap.size + 1, 1, none⟩ = some (.int .i64 a2) ∧ W'.cell? ⟨w.heap.size + 2, 0, none⟩ = some (.int .i64 b1) ∧ W'.cell? ⟨w.heap.size + 2, 1, none⟩ = some (.int .i64 b2)) := Lib.hid (fun W' h => by
    obtain ⟨m0, m1, m2, _, hw2⟩ := HA.out W' h
    exact ⟨cellH m0 0, cellH m0 1, cellH m0 2, cellH m1 0, cellH m1 1, cellH m2 0, cellH m2 1⟩)
  have CA : Hid (∀ w', Below W1.heap.size W1 w' → Calls Try.prog 76 #[.agg #[.int .i64 wd, .int .i64 hg, o], .agg #[.int .i64 a1, .int .i64 a2]] w' fun e w'' => e = .returned (.int .i64 ha') ∧ Below w'.heap.size w' w'') := Lib.hid (fun w' h => HCa.out w' (HB0.out.trans (h.mono HB0.out.size)))
  have CB : Hid (∀ w', Below W1.heap.size W1 w' → Calls Try.prog 76 #[.agg #[.int .i64 wd, .int .i64 hg, o], .agg #[.int .i64 b1, .int .i64 b2]] w' fun e w'' => e = .returned (.int .i64 hq) ∧ Below w'.heap.size w' w'') := Lib.hid (fun w' h => HCb.out w' (HB0.out.trans (h.mono HB0.out.size)))
  suffices key : ∀ (F T : Nat) (W : World), Hid (Below W1.heap.size W1 W ∧ W1.heap.size ≤ F ∧ W1.heap.size ≤ T ∧ F ≠ T ∧ W.heap[F]? = some (.cells #[.int .i64 (ha' + up)] 3 (0, 0)) ∧ W.heap[T]? = some (.cells #[.int .i64 (hq + rise)] 3 (0, 0))) → Exit.then K Q Exit.normal { tmps := #[.agg #[.int .i64 wd, .int .i64 hg, o], .agg #[.int .i64 a1, .int .i64 a2], .int .i64 up, .agg #[.int .i64 b1, .int .i64 b2], .int .i64 rise, .pointer (some ⟨w.heap.size, 0, none⟩), .pointer (some ⟨w.heap.size + 1, 0, none⟩), undef, .pointer (some ⟨w.heap.size + 2, 0, none⟩), undef, .nilFunc, (.pointer (some ⟨F, 0, none⟩)), (.pointer (some ⟨T, 0, none⟩)), (.agg #[.int .i64 wd, .int .i64 hg, o]), (.agg #[.int .i64 a1, .int .i64 a2]), (.int .i64 ha'), (.int .i64 up), (.int .i64 (ha' + up)), (.agg #[.int .i64 wd, .int .i64 hg, o]), (.agg #[.int .i64 b1, .int .i64 b2]), (.int .i64 hq), (.int .i64 rise), (.int .i64 (hq + rise)), undef], defers := [] } W by
    clear hK
    refine wp_region_inv (by kernel_rfl) (BkInv w W1 wd hg o a1 a2 b1 b2 up rise ha' hq) ⟨false, false, false, false, false, false, false, false, false, false, false, false, false, false, 0, 0, rfl, rfl, (Below.refl _ W1).drew, by simp, by simp, by simp, by simp, by simp⟩ ?hend ?hstep
    case hend =>
      rintro listed a w' ⟨l0, l1, l2, l3, l4, l5, l6, l7, l8, l9, l10, l11, l12, l13, F, T, rfl, rfl, hb, hF, hT, hne, kF, kT⟩ hr
      have hA := ready_all (by kernel_rfl) rfl hr 14
      have hall : l0 = true ∧ l1 = true ∧ l2 = true ∧ l3 = true ∧ l4 = true ∧ l5 = true ∧ l6 = true ∧ l7 = true ∧ l8 = true ∧ l9 = true ∧ l10 = true ∧ l11 = true ∧ l12 = true ∧ l13 = true :=
        ⟨hA 0 (by decide) (by simp), hA 1 (by decide) (by simp), hA 2 (by decide) (by simp), hA 3 (by decide) (by simp), hA 4 (by decide) (by simp), hA 5 (by decide) (by simp), hA 6 (by decide) (by simp), hA 7 (by decide) (by simp), hA 8 (by decide) (by simp), hA 9 (by decide) (by simp), hA 10 (by decide) (by simp), hA 11 (by decide) (by simp), hA 12 (by decide) (by simp), hA 13 (by decide) (by simp)⟩
      obtain ⟨rfl, rfl, rfl, rfl, rfl, rfl, rfl, rfl, rfl, rfl, rfl, rfl, rfl, rfl⟩ := hall
      exact key F T w' (Lib.hid ⟨hb, (hF rfl).1, (hT rfl).1, hne rfl rfl, (hF rfl).2, (hT rfl).2⟩)
    case hstep =>
      rintro listed a w' i ⟨l0, l1, l2, l3, l4, l5, l6, l7, l8, l9, l10, l11, l12, l13, F, T, rfl, rfl, hb, hF, hT, hne, kF, kT⟩ hi
      obtain ⟨hf, o', ho', hp⟩ := mem_ready.1 hi
      have hi8 : i < 14 := (Array.getElem?_eq_some_iff.1 ho').1
      clear hi
      have hQD := HRD.out w' hb
      match i, hi8 with
      | 0, _ =>
        obtain rfl : l0 = false := hf
        clear hp ho'
        unfold wpOp
        go_simp
        exact .inl ⟨true, l1, l2, l3, l4, l5, l6, l7, l8, l9, l10, l11, l12, l13, F, T, rfl, rfl, hb, hF, hT, hne, kF, kT⟩
      | 1, _ =>
        obtain rfl : l1 = false := hf
        clear hp ho'
        unfold wpOp
        go_simp
        exact .inl ⟨l0, true, l2, l3, l4, l5, l6, l7, l8, l9, l10, l11, l12, l13, F, T, rfl, rfl, hb, hF, hT, hne, kF, kT⟩
      | 2, _ =>
        obtain rfl : l2 = false := hf
        cases ho'
        obtain rfl : l0 = true := hp ⟨0, .data⟩ (by simp) rfl
        obtain rfl : l1 = true := hp ⟨1, .data⟩ (by simp) rfl
        clear hp
        unfold wpOp
        simp only [onlyIf_true]
        go_simp
        refine .inl ((CA.out w' hb).mono ?_)
        rintro e w5 ⟨rfl, hb5⟩
        exact ⟨true, true, true, l3, l4, l5, l6, l7, l8, l9, l10, l11, l12, l13, F, T, rfl, rfl, hb.trans (hb5.mono hb.size), fun h => ⟨(hF h).1, (hb5.block _ (Array.getElem?_eq_some_iff.1 (hF h).2).1).trans (hF h).2⟩, fun h => ⟨(hT h).1, (hb5.block _ (Array.getElem?_eq_some_iff.1 (hT h).2).1).trans (hT h).2⟩, hne, kF, kT⟩
      | 3, _ =>
        obtain rfl : l3 = false := hf
        clear hp ho'
        unfold wpOp
        go_simp
        exact .inl ⟨l0, l1, l2, true, l4, l5, l6, l7, l8, l9, l10, l11, l12, l13, F, T, rfl, rfl, hb, hF, hT, hne, kF, kT⟩
      | 4, _ =>
        obtain rfl : l4 = false := hf
        cases ho'
        obtain rfl : l2 = true := hp ⟨2, .data⟩ (by simp) rfl
        obtain rfl : l3 = true := hp ⟨3, .data⟩ (by simp) rfl
        clear hp
        unfold wpOp
        simp only [onlyIf_true]
        go_simp
        exact .inl ⟨l0, l1, true, true, true, l5, l6, l7, l8, l9, l10, l11, l12, l13, F, T, rfl, rfl, hb, hF, hT, hne, kF, kT⟩
      | 5, _ =>
        obtain rfl : l5 = false := hf
        clear hp ho'
        unfold wpOp
        go_simp
        exact .inl ⟨l0, l1, l2, l3, l4, true, l6, l7, l8, l9, l10, l11, l12, l13, F, T, rfl, rfl, hb, hF, hT, hne, kF, kT⟩
      | 6, _ =>
        obtain rfl : l6 = false := hf
        clear hp ho'
        unfold wpOp
        go_simp
        exact .inl ⟨l0, l1, l2, l3, l4, l5, true, l7, l8, l9, l10, l11, l12, l13, F, T, rfl, rfl, hb, hF, hT, hne, kF, kT⟩
      | 7, _ =>
        obtain rfl : l7 = false := hf
        cases ho'
        obtain rfl : l5 = true := hp ⟨5, .data⟩ (by simp) rfl
        obtain rfl : l6 = true := hp ⟨6, .data⟩ (by simp) rfl
        clear hp
        unfold wpOp
        simp only [onlyIf_true]
        go_simp
        refine .inl ((CB.out w' hb).mono ?_)
        rintro e w5 ⟨rfl, hb5⟩
        exact ⟨l0, l1, l2, l3, l4, true, true, true, l8, l9, l10, l11, l12, l13, F, T, rfl, rfl, hb.trans (hb5.mono hb.size), fun h => ⟨(hF h).1, (hb5.block _ (Array.getElem?_eq_some_iff.1 (hF h).2).1).trans (hF h).2⟩, fun h => ⟨(hT h).1, (hb5.block _ (Array.getElem?_eq_some_iff.1 (hT h).2).1).trans (hT h).2⟩, hne, kF, kT⟩
      | 8, _ =>
        obtain rfl : l8 = false := hf
        clear hp ho'
        unfold wpOp
        go_simp
        exact .inl ⟨l0, l1, l2, l3, l4, l5, l6, l7, true, l9, l10, l11, l12, l13, F, T, rfl, rfl, hb, hF, hT, hne, kF, kT⟩
      | 9, _ =>
        obtain rfl : l9 = false := hf
        cases ho'
        obtain rfl : l7 = true := hp ⟨7, .data⟩ (by simp) rfl
        obtain rfl : l8 = true := hp ⟨8, .data⟩ (by simp) rfl
        clear hp
        unfold wpOp
        simp only [onlyIf_true]
        go_simp
        exact .inl ⟨l0, l1, l2, l3, l4, l5, l6, true, true, true, l10, l11, l12, l13, F, T, rfl, rfl, hb, hF, hT, hne, kF, kT⟩
      | 10, _ =>
        obtain rfl : l10 = false := hf
        obtain rfl : l12 = false := by
          cases l12 with
          | false => rfl
          | true => exact absurd (kF rfl) (by decide)
        clear hp ho'
        unfold wpOp
        go_simp
        exact .inl ⟨l0, l1, l2, l3, l4, l5, l6, l7, l8, l9, true, l11, false, l13, w'.heap.size, T, rfl, rfl, hb.alloc hb.size _, fun _ => ⟨hb.size, heap_alloc_new _ _⟩, fun h => ⟨(hT h).1, (gNe _ _ _ (by have := (Array.getElem?_eq_some_iff.1 (hT h).2).1; omega)).trans (hT h).2⟩, fun _ h => (by have := (Array.getElem?_eq_some_iff.1 (hT h).2).1; omega), fun h => (by cases h), kT⟩
      | 11, _ =>
        obtain rfl : l11 = false := hf
        obtain rfl : l13 = false := by
          cases l13 with
          | false => rfl
          | true => exact absurd (kT rfl) (by decide)
        clear hp ho'
        unfold wpOp
        go_simp
        exact .inl ⟨l0, l1, l2, l3, l4, l5, l6, l7, l8, l9, l10, true, l12, false, F, w'.heap.size, rfl, rfl, hb.alloc hb.size _, fun h => ⟨(hF h).1, (gNe _ _ _ (by have := (Array.getElem?_eq_some_iff.1 (hF h).2).1; omega)).trans (hF h).2⟩, fun _ => ⟨hb.size, heap_alloc_new _ _⟩, fun h _ => (by have := (Array.getElem?_eq_some_iff.1 (hF h).2).1; omega), kF, fun h => (by cases h)⟩
      | 12, _ =>
        obtain rfl : l12 = false := hf
        cases ho'
        obtain rfl : l10 = true := hp ⟨10, .data⟩ (by simp) rfl
        obtain rfl : l4 = true := hp ⟨4, .data⟩ (by simp) rfl
        clear hp
        obtain ⟨f1, f2⟩ := hF rfl
        simp only [Bool.false_eq_true, if_false] at f2
        have x0 := cellH f2 0
        have xf := freeH f2
        simp at x0
        unfold wpOp
        simp only [onlyIf_true]
        go_simp
        exact .inl ⟨l0, l1, l2, l3, true, l5, l6, l7, l8, l9, true, l11, true, l13, F, T, rfl, rfl, (hb.setCell (p := ⟨F, 0, none⟩) (by simpa using f1) _), fun _ => ⟨f1, (heap_same f2 0 _)⟩, fun h => ⟨(hT h).1, (heap_other _ _ _ _ _ (fun e => hne rfl h e.symm)).trans ((hT h).2)⟩, hne, fun _ => rfl, kT⟩
      | 13, _ =>
        obtain rfl : l13 = false := hf
        cases ho'
        obtain rfl : l11 = true := hp ⟨11, .data⟩ (by simp) rfl
        obtain rfl : l9 = true := hp ⟨9, .data⟩ (by simp) rfl
        clear hp
        obtain ⟨f1, f2⟩ := hT rfl
        simp only [Bool.false_eq_true, if_false] at f2
        have x0 := cellH f2 0
        have xf := freeH f2
        simp at x0
        unfold wpOp
        simp only [onlyIf_true]
        go_simp
        exact .inl ⟨l0, l1, l2, l3, l4, l5, l6, l7, l8, true, l10, true, l12, true, F, T, rfl, rfl, (hb.setCell (p := ⟨T, 0, none⟩) (by simpa using f1) _), fun h => ⟨(hF h).1, (heap_other _ _ _ _ _ (fun e => hne h rfl e)).trans ((hF h).2)⟩, fun _ => ⟨f1, (heap_same f2 0 _)⟩, hne, kF, fun _ => rfl⟩
  intro F T W HW
  show K _ _
  apply hK
  clear hK
  have hbw := HB0.out.trans (HW.out.1.mono HB0.out.size)
  obtain ⟨m0, m1, m2, _, _⟩ := HA.out W HW.out.1
  have HR := Lib.hid (show Below w.heap.size w W ∧ BkSt w.heap.size (w.heap.size + 1) (w.heap.size + 2) F T wd hg o (a1, a2) (b1, b2) (ha' + up) (hq + rise) W from ⟨hbw, m0, m1, m2, HW.out.2.2.2.2.1, HW.out.2.2.2.2.2⟩)
  clear hbw m0 m1 m2
  go_wp2_with fail
  go_ret
  exact ⟨_, _, _, _, _, rfl, HR.out.1, HR.out.2⟩
end Go.Proofs.Ytnacgogcbbpjmaa
