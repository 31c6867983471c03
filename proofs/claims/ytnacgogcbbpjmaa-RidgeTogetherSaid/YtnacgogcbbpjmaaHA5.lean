/- crossings of package ridge. -/
import Derived.Test.YtnacgogcbbpjmaaHA4
import Derived.Test.YtnacgogcbbpjmaaHI0
import Derived.Deep.RegionHeldLaw
import Derived.Deep.RegionHeld3
set_option linter.unusedVariables false
set_option linter.unusedSimpArgs false
namespace Go.Proofs.Ytnacgogcbbpjmaa
open Go Go.RowKit

def CrInv (w W1 : World) (wd hg : Int) (o : Value) (a1 a2 b1 b2 : Int) (listed : Array Bool) (a : Act) (w' : World) : Prop := ∃ (l0 l1 l2 l3 l4 l5 l6 l7 : Bool) (F T : Nat), listed = #[l0, l1, l2, l3, l4, l5, l6, l7] ∧ a = { tmps := #[.agg #[.int .i64 wd, .int .i64 hg, o], .agg #[.int .i64 a1, .int .i64 a2], .agg #[.int .i64 b1, .int .i64 b2], .pointer (some ⟨w.heap.size, 0, none⟩), .pointer (some ⟨w.heap.size + 1, 0, none⟩), .pointer (some ⟨w.heap.size + 2, 0, none⟩), .nilFunc, onlyIf l4 (.pointer (some ⟨F, 0, none⟩)), onlyIf l5 (.pointer (some ⟨T, 0, none⟩)), undef, undef, onlyIf l0 (.agg #[.int .i64 a1, .int .i64 a2]), onlyIf l1 (.agg #[.int .i64 a1, .int .i64 a2]), onlyIf l2 (.agg #[.int .i64 b1, .int .i64 b2]), onlyIf l3 (.agg #[.int .i64 b1, .int .i64 b2]), undef, undef, undef, undef, undef, undef, undef, undef, undef, undef, undef, undef, undef, undef, undef, undef, undef, undef, undef, undef, undef, undef], defers := [] } ∧ Below W1.heap.size W1 w' ∧
      (l4 = true → W1.heap.size ≤ F ∧ w'.heap[F]? = some (.cells #[.int .i64 (if l6 = true then a1 else 0), .int .i64 (if l6 = true then a2 else 0)] 72 (0, 0))) ∧
      (l5 = true → W1.heap.size ≤ T ∧ w'.heap[T]? = some (.cells #[.int .i64 (if l7 = true then b1 else 0), .int .i64 (if l7 = true then b2 else 0)] 72 (0, 0))) ∧ (l4 = true → l5 = true → F ≠ T) ∧ (l6 = true → l4 = true) ∧ (l7 = true → l5 = true)
/-- The closure that crossings returns: the steps, the map, and both places lie in these blocks. -/
def crV (X M F T : Nat) : Value := .func (.func 73) #[] #[.pointer (some ⟨X, 0, none⟩), .pointer (some ⟨M, 0, none⟩), .pointer (some ⟨F, 0, none⟩), .pointer (some ⟨T, 0, none⟩)]
def dist (a b : Int) : Int := max (b - a) (a - b)
structure CrSt (X M F T : Nat) (wd hg : Int) (o : Value) (a b : Pl) (W : World) : Prop where
  x : W.heap[X]? = some (.cells #[.int .i64 (dist a.1 b.1), .int .i64 (dist a.2 b.2)] 72 (0, 0))
  m : W.heap[M]? = some (.cells #[.int .i64 wd, .int .i64 hg, o] 24 (0, 0))
  f : W.heap[F]? = some (.cells #[.int .i64 a.1, .int .i64 a.2] 72 (0, 0))
  t : W.heap[T]? = some (.cells #[.int .i64 b.1, .int .i64 b.2] 72 (0, 0))
/-- What lies where while crossings finds the steps. -/
structure CrW (w W : World) (X F T : Nat) (wd hg : Int) (o : Value) (a b s : Pl) : Prop where
  below : Below w.heap.size w W
  big : w.heap.size ≤ F ∧ w.heap.size ≤ T ∧ w.heap.size ≤ X ∧ F ≠ T ∧ F ≠ X ∧ T ≠ X
  x : W.heap[X]? = some (.cells #[.int .i64 s.1, .int .i64 s.2] 72 (0, 0))
  m : W.heap[w.heap.size]? = some (.cells #[.int .i64 wd, .int .i64 hg, o] 24 (0, 0))
  f : W.heap[F]? = some (.cells #[.int .i64 a.1, .int .i64 a.2] 72 (0, 0))
  t : W.heap[T]? = some (.cells #[.int .i64 b.1, .int .i64 b.2] 72 (0, 0))
theorem CrW.set {w W : World} {X F T : Nat} {wd hg : Int} {o : Value} {a b s : Pl} (H : CrW w W X F T wd hg o a b s) (hX : w.heap.size ≠ X) (j : Nat) (v : Int) (hj : j < 2) : CrW w (W.setCell ⟨X, j, none⟩ (.int .i64 v)) X F T wd hg o a b (setP s j v) := by
  obtain ⟨b1, b2, b3, b4, b5, b6⟩ := H.big
  have ho : ∀ b, b ≠ X → (W.setCell ⟨X, j, none⟩ (.int .i64 v)).heap[b]? = W.heap[b]? := fun b hb => heap_other _ _ _ _ _ hb
  refine ⟨H.below.setCell (p := ⟨X, j, none⟩) (by simpa using b3) _, H.big, ?_, (ho _ hX).trans H.m, (ho _ b5).trans H.f, (ho _ b6).trans H.t⟩
  rw [← setP_cells s j v hj]; exact heap_same H.x _ _
theorem CrW.drew {w W : World} {X F T : Nat} {wd hg : Int} {o : Value} {a b s : Pl} (H : CrW w W X F T wd hg o a b s) : CrW w W.drew X F T wd hg o a b s := ⟨H.below.drew, H.big, H.x, H.m, H.f, H.t⟩

set_option maxRecDepth 100000 in
set_option maxHeartbeats 4000000 in
theorem crossings_any (wd hg : Int) (o : Value) (a b : Pl) (w : World) (ha : (0 ≤ a.1 ∧ a.1 ≤ 48) ∧ 0 ≤ a.2 ∧ a.2 ≤ 48) (hb : (0 ≤ b.1 ∧ b.1 ≤ 48) ∧ 0 ≤ b.2 ∧ b.2 ≤ 48) :
    Calls Try.prog 46 #[mpV wd hg o, plV a, plV b] w fun e w' => ∃ X M F T, e = .returned (crV X M F T) ∧ Below w.heap.size w w' ∧ CrSt X M F T wd hg o a b w' := by
  have HX := Lib.hid (fun w' => axes_any a w')
  have HY := Lib.hid (fun w' => axes_any b w')
  obtain ⟨a1, a2⟩ := a
  obtain ⟨b1, b2⟩ := b
  unfold plV at HX HY
  simp only at HX HY
  have HA := Lib.hid (fun W' => three_cells w #[.int .i64 wd, .int .i64 hg, o] #[.int .i64 a1, .int .i64 a2] #[.int .i64 b1, .int .i64 b2] 24 32 32 (W := W'))
  have HB0 := Lib.hid ((((Below.refl _ w).alloc (Nat.le_refl w.heap.size) (.cells #[.int .i64 wd, .int .i64 hg, o] 24)).alloc (by simp) (.cells #[.int .i64 a1, .int .i64 a2] 32)).alloc (by simp; omega) (.cells #[.int .i64 b1, .int .i64 b2] 32))
  obtain ⟨W1, hW1⟩ : ∃ W1, ((w.alloc (.cells #[.int .i64 wd, .int .i64 hg, o] 24)).alloc (.cells #[.int .i64 a1, .int .i64 a2] 32)).alloc (.cells #[.int .i64 b1, .int .i64 b2] 32) = W1 := ⟨_, rfl⟩
  rw [hW1] at HA HB0
  have HW1 := Lib.hid hW1
  have ead : w.heap.size + 1 + 1 = w.heap.size + 2 := rfl
  unfold mpV plV
  simp only
  clear hW1
  go_enter Try.func46, Try.ntmps46
  go_wp2_with fail
  rw [HW1.out]
  obtain ⟨m0, m1, m2, _, hw2⟩ := HA.out W1 (Below.refl _ _)
  have r0 := cellH m1 0
  have r1 := cellH m1 1
  have q0 := cellH m2 0
  have q1 := cellH m2 1
  simp at q0 q1 r0 r1
  clear m0 m1 m2 hw2
  rename_i Q K hK hlt
  have HRD : Hid (∀ W', Below W1.heap.size W1 W' → W'.cell? ⟨w.heap.size + 1, 0, none⟩ = some (.int .i64 a1) ∧ W'.cell? ⟨w.heap.size + 1, 1, none⟩ = some (.int .i64 a2) ∧ W'.cell? ⟨w.heap.size + 2, 0, none⟩ = some (.int .i64 b1) ∧ W'.cell? ⟨w.heap.size + 2, 1, none⟩ = some (.int .i64 b2)) := Lib.hid (fun W' h => by
    obtain ⟨m0, m1, m2, _, hw2⟩ := HA.out W' h
    have r0 := cellH m1 0
    have r1 := cellH m1 1
    have q0 := cellH m2 0
    have q1 := cellH m2 1
    simp at q0 q1 r0 r1
    exact ⟨r0, r1, q0, q1⟩)
  suffices key : ∀ (F T : Nat) (W : World), Hid (Below W1.heap.size W1 W ∧ W1.heap.size ≤ F ∧ W1.heap.size ≤ T ∧ F ≠ T ∧ W.heap[F]? = some (.cells #[.int .i64 a1, .int .i64 a2] 72 (0, 0)) ∧ W.heap[T]? = some (.cells #[.int .i64 b1, .int .i64 b2] 72 (0, 0))) → Exit.then K Q Exit.normal { tmps := #[.agg #[.int .i64 wd, .int .i64 hg, o], .agg #[.int .i64 a1, .int .i64 a2], .agg #[.int .i64 b1, .int .i64 b2], .pointer (some ⟨w.heap.size, 0, none⟩), .pointer (some ⟨w.heap.size + 1, 0, none⟩), .pointer (some ⟨w.heap.size + 2, 0, none⟩), .nilFunc, (.pointer (some ⟨F, 0, none⟩)), (.pointer (some ⟨T, 0, none⟩)), undef, undef, (.agg #[.int .i64 a1, .int .i64 a2]), (.agg #[.int .i64 a1, .int .i64 a2]), (.agg #[.int .i64 b1, .int .i64 b2]), (.agg #[.int .i64 b1, .int .i64 b2]), undef, undef, undef, undef, undef, undef, undef, undef, undef, undef, undef, undef, undef, undef, undef, undef, undef, undef, undef, undef, undef, undef], defers := [] } W by
    clear hK
    refine wp_region_inv (by kernel_rfl) (CrInv w W1 wd hg o a1 a2 b1 b2)
      ⟨false, false, false, false, false, false, false, false, 0, 0, rfl, rfl, (Below.refl _ W1).drew, by simp, by simp, by simp, by simp, by simp⟩ ?hend ?hstep
    case hend =>
      rintro listed a w' ⟨l0, l1, l2, l3, l4, l5, l6, l7, F, T, rfl, rfl, hb, h4, h5, h6, h7, h8⟩ hr
      have ha := ready_all (by kernel_rfl) rfl hr 8
      have hall : l0 = true ∧ l1 = true ∧ l2 = true ∧ l3 = true ∧ l4 = true ∧ l5 = true ∧ l6 = true ∧ l7 = true :=
        ⟨ha 0 (by decide) (by simp), ha 1 (by decide) (by simp), ha 2 (by decide) (by simp), ha 3 (by decide) (by simp), ha 4 (by decide) (by simp), ha 5 (by decide) (by simp), ha 6 (by decide) (by simp), ha 7 (by decide) (by simp)⟩
      obtain ⟨rfl, rfl, rfl, rfl, rfl, rfl, rfl, rfl⟩ := hall
      exact key F T w' (Lib.hid ⟨hb, (h4 rfl).1, (h5 rfl).1, h6 rfl rfl, (h4 rfl).2, (h5 rfl).2⟩)
    case hstep =>
      rintro listed a w' i ⟨l0, l1, l2, l3, l4, l5, l6, l7, F, T, rfl, rfl, hb, h4, h5, h6, h7, h8⟩ hi
      obtain ⟨hf, o', ho', hp⟩ := mem_ready.1 hi
      have hi8 : i < 8 := (Array.getElem?_eq_some_iff.1 ho').1
      clear hi
      have hQD := HRD.out w' hb
      match i, hi8 with
      | 0, _ =>
        obtain rfl : l0 = false := hf
        clear hp ho'
        unfold wpOp
        go_simp
        exact .inl ⟨true, l1, l2, l3, l4, l5, l6, l7, F, T, rfl, rfl, hb, h4, h5, h6, h7, h8⟩
      | 1, _ =>
        obtain rfl : l1 = false := hf
        cases ho'
        obtain rfl : l0 = true := hp ⟨0, .data⟩ (by simp) rfl
        clear hp
        unfold wpOp
        simp only [onlyIf_true]
        go_simp
        refine .inl ((HX.out _).mono ?_)
        rintro e w5 ⟨rfl, hb5⟩
        exact ⟨true, true, l2, l3, l4, l5, l6, l7, F, T, rfl, rfl, hb.trans (hb5.mono hb.size), fun h => ⟨(h4 h).1, (hb5.block _ (Array.getElem?_eq_some_iff.1 (h4 h).2).1).trans (h4 h).2⟩, fun h => ⟨(h5 h).1, (hb5.block _ (Array.getElem?_eq_some_iff.1 (h5 h).2).1).trans (h5 h).2⟩, h6, h7, h8⟩
      | 2, _ =>
        obtain rfl : l2 = false := hf
        clear hp ho'
        unfold wpOp
        go_simp
        exact .inl ⟨l0, l1, true, l3, l4, l5, l6, l7, F, T, rfl, rfl, hb, h4, h5, h6, h7, h8⟩
      | 3, _ =>
        obtain rfl : l3 = false := hf
        cases ho'
        obtain rfl : l2 = true := hp ⟨2, .data⟩ (by simp) rfl
        clear hp
        unfold wpOp
        simp only [onlyIf_true]
        go_simp
        refine .inl ((HY.out _).mono ?_)
        rintro e w5 ⟨rfl, hb5⟩
        exact ⟨l0, l1, true, true, l4, l5, l6, l7, F, T, rfl, rfl, hb.trans (hb5.mono hb.size), fun h => ⟨(h4 h).1, (hb5.block _ (Array.getElem?_eq_some_iff.1 (h4 h).2).1).trans (h4 h).2⟩, fun h => ⟨(h5 h).1, (hb5.block _ (Array.getElem?_eq_some_iff.1 (h5 h).2).1).trans (h5 h).2⟩, h6, h7, h8⟩
      | 4, _ =>
        obtain rfl : l4 = false := hf
        obtain rfl : l6 = false := by
          cases l6 with
          | false => rfl
          | true => exact absurd (h7 rfl) (by decide)
        clear hp ho'
        unfold wpOp
        go_simp
        exact .inl ⟨l0, l1, l2, l3, true, l5, false, l7, w'.heap.size, T, rfl, rfl, hb.alloc hb.size _, fun _ => ⟨hb.size, heap_alloc_new _ _⟩, fun h => ⟨(h5 h).1, (gNe _ _ _ (by have := (Array.getElem?_eq_some_iff.1 (h5 h).2).1; omega)).trans (h5 h).2⟩, fun _ h => (by have := (Array.getElem?_eq_some_iff.1 (h5 h).2).1; omega), fun h => (by cases h), h8⟩
      | 5, _ =>
        obtain rfl : l5 = false := hf
        obtain rfl : l7 = false := by
          cases l7 with
          | false => rfl
          | true => exact absurd (h8 rfl) (by decide)
        clear hp ho'
        unfold wpOp
        go_simp
        exact .inl ⟨l0, l1, l2, l3, l4, true, l6, false, F, w'.heap.size, rfl, rfl, hb.alloc hb.size _, fun h => ⟨(h4 h).1, (gNe _ _ _ (by have := (Array.getElem?_eq_some_iff.1 (h4 h).2).1; omega)).trans (h4 h).2⟩, fun _ => ⟨hb.size, heap_alloc_new _ _⟩, fun h _ => (by have := (Array.getElem?_eq_some_iff.1 (h4 h).2).1; omega), h7, fun h => (by cases h)⟩
      | 6, _ =>
        obtain rfl : l6 = false := hf
        cases ho'
        obtain rfl : l4 = true := hp ⟨4, .data⟩ (by simp) rfl
        obtain rfl : l1 = true := hp ⟨1, .data⟩ (by simp) rfl
        clear hp
        obtain ⟨f1, f2⟩ := h4 rfl
        simp only [Bool.false_eq_true, if_false] at f2
        have x0 := cellH f2 0
        have x1 := cellH f2 1
        have xf := freeH f2
        simp at x0 x1
        unfold wpOp
        simp only [onlyIf_true]
        go_simp
        exact .inl ⟨l0, true, l2, l3, true, l5, true, l7, F, T, rfl, rfl, (hb.setCell (p := ⟨F, 0, none⟩) (by simpa using f1) _).setCell (p := ⟨F, 1, none⟩) (by simpa using f1) _, fun _ => ⟨f1, heap_same (heap_same f2 0 _) 1 _⟩,
          fun h => ⟨(h5 h).1, (heap_other _ _ _ _ _ (fun e => h6 rfl h e.symm)).trans ((heap_other _ _ _ _ _ (fun e => h6 rfl h e.symm)).trans (h5 h).2)⟩, h6, fun _ => rfl, h8⟩
      | 7, _ =>
        obtain rfl : l7 = false := hf
        cases ho'
        obtain rfl : l5 = true := hp ⟨5, .data⟩ (by simp) rfl
        obtain rfl : l3 = true := hp ⟨3, .data⟩ (by simp) rfl
        clear hp
        obtain ⟨f1, f2⟩ := h5 rfl
        simp only [Bool.false_eq_true, if_false] at f2
        have x0 := cellH f2 0
        have x1 := cellH f2 1
        have xf := freeH f2
        simp at x0 x1
        unfold wpOp
        simp only [onlyIf_true]
        go_simp
        exact .inl ⟨l0, l1, l2, true, l4, true, l6, true, F, T, rfl, rfl, (hb.setCell (p := ⟨T, 0, none⟩) (by simpa using f1) _).setCell (p := ⟨T, 1, none⟩) (by simpa using f1) _,
          fun h => ⟨(h4 h).1, (heap_other _ _ _ _ _ (fun e => h6 h rfl e)).trans ((heap_other _ _ _ _ _ (fun e => h6 h rfl e)).trans (h4 h).2)⟩, fun _ => ⟨f1, heap_same (heap_same f2 0 _) 1 _⟩, h6, h7, fun _ => rfl⟩
  intro F T W HW
  show K _ _
  apply hK
  clear hK q0 q1 r0 r1
  go_wp2_with fail
  have HS0 : Hid (CrW w (W.alloc (.cells #[.int .i64 0, .int .i64 0] 72)) W.heap.size F T wd hg o (a1, a2) (b1, b2) (0, 0) ∧ w.heap.size ≠ W.heap.size) := Lib.hid (by
    obtain ⟨h1, h2, h3, h4, h5, h6⟩ := HW.out
    have hF := (Array.getElem?_eq_some_iff.1 h5).1
    have hT := (Array.getElem?_eq_some_iff.1 h6).1
    have hb1 := HB0.out.trans (h1.mono HB0.out.size)
    obtain ⟨m0, _, _, hlt2, _⟩ := HA.out W h1
    refine ⟨⟨hb1.alloc hb1.size _, ⟨?_, ?_, hb1.size, h4, ?_, ?_⟩, heap_alloc_new _ _, ?_, ?_, ?_⟩, by omega⟩
    · have := HB0.out.size; omega
    · have := HB0.out.size; omega
    · omega
    · omega
    · exact (gNe _ _ _ (by omega)).trans m0
    · exact (gNe _ _ _ (by omega)).trans h5
    · exact (gNe _ _ _ (by omega)).trans h6)
  clear hlt ead
  obtain ⟨⟨ha1, ha2⟩, ha3, ha4⟩ := ha
  obtain ⟨⟨hb1, hb2⟩, hb3, hb4⟩ := hb
  go_loopw [15] (fun i wr => ∃ (j : Nat) (s : Pl), i = .int .i64 j ∧ ((j = 0 ∧ s = (0, 0)) ∨ (j = 1 ∧ s = (dist a1 b1, 0)) ∨ (j = 2 ∧ s = (dist a1 b1, dist a2 b2))) ∧ Hid (CrW w wr W.heap.size F T wd hg o (a1, a2) (b1, b2) s)) (fun i _ => 2 - (intOf i).toNat)
  case atStart => exact ⟨0, _, rfl, .inl ⟨rfl, rfl⟩, Lib.hid HS0.out.1⟩
  case round =>
    obtain ⟨j, s, rfl, hj, hS⟩ := hrel
    rcases hj with ⟨rfl, rfl⟩ | ⟨rfl, rfl⟩ | ⟨rfl, rfl⟩
    · have f0 := cellH hS.out.f 0
      have t0 := cellH hS.out.t 0
      have x0 := cellH hS.out.x 0
      have x1 := cellH hS.out.x 1
      have xf := freeH hS.out.x
      simp at f0 t0 x0 x1
      have e1 : IntKind.i64.wrap (b1 - a1) = b1 - a1 := IntWalk.i64_in _ (by omega)
      have e2 : IntKind.i64.wrap (a1 - b1) = a1 - b1 := IntWalk.i64_in _ (by omega)
      have w1 : wrap64 (b1 - a1) = b1 - a1 := w64 (by omega)
      have w2 : wrap64 (a1 - b1) = a1 - b1 := w64 (by omega)
      have HT : Hid (CrW w (wr.setCell ⟨W.heap.size, 0, none⟩ (.int .i64 (max (b1 - a1) (a1 - b1)))) W.heap.size F T wd hg o (a1, a2) (b1, b2) (dist a1 b1, 0)) := Lib.hid (hS.out.set HS0.out.2 0 _ (by omega))
      go_wp2_with fail
      go_region
      go_wp2_with fail
      go_roundw
      case rel => exact ⟨0 + 1, _, rfl, .inr (.inl ⟨rfl, rfl⟩), Lib.hid HT.out.drew⟩
      case measure => simp [intOf]
    · have f0 := cellH hS.out.f 1
      have t0 := cellH hS.out.t 1
      have x0 := cellH hS.out.x 0
      have x1 := cellH hS.out.x 1
      have xf := freeH hS.out.x
      simp at f0 t0 x0 x1
      have e1 : IntKind.i64.wrap (b2 - a2) = b2 - a2 := IntWalk.i64_in _ (by omega)
      have e2 : IntKind.i64.wrap (a2 - b2) = a2 - b2 := IntWalk.i64_in _ (by omega)
      have w1 : wrap64 (b2 - a2) = b2 - a2 := w64 (by omega)
      have w2 : wrap64 (a2 - b2) = a2 - b2 := w64 (by omega)
      have HT : Hid (CrW w (wr.setCell ⟨W.heap.size, 1, none⟩ (.int .i64 (max (b2 - a2) (a2 - b2)))) W.heap.size F T wd hg o (a1, a2) (b1, b2) (dist a1 b1, dist a2 b2)) := Lib.hid (hS.out.set HS0.out.2 1 _ (by omega))
      go_wp2_with fail
      go_region
      go_wp2_with fail
      go_roundw
      case rel => exact ⟨1 + 1, _, rfl, .inr (.inr ⟨rfl, rfl⟩), Lib.hid HT.out.drew⟩
      case measure => simp [intOf]
    · have HR : Hid (CrSt W.heap.size w.heap.size F T wd hg o (a1, a2) (b1, b2) wr ∧ Below w.heap.size w wr) := Lib.hid ⟨⟨hS.out.x, hS.out.m, hS.out.f, hS.out.t⟩, hS.out.below⟩
      go_wp2_with fail
      go_ret
      exact ⟨_, _, _, _, rfl, HR.out.2, HR.out.1⟩
end Go.Proofs.Ytnacgogcbbpjmaa
