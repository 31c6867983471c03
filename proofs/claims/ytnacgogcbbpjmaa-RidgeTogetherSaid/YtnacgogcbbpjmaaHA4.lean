/- meet of package ridge. -/
import Derived.Test.YtnacgogcbbpjmaaHA1
import Derived.BigRegion
set_option linter.unusedVariables false
set_option linter.unusedSimpArgs false
namespace Go.Proofs.Ytnacgogcbbpjmaa
open Go Go.RowKit

theorem info_mt : (Try.prog.info? 102).map (·.size) = some 4 := by kernel_rfl
theorem info_cr : (Try.prog.info? 60).map (·.size) = some 2 := by kernel_rfl
def atP (n k f t : Int) : Int := (n - k) * f + k * t
def beyP (n k : Int) (f t : Pl) : Int := atP n k f.1 t.1 % n + atP n k f.2 t.2 % n
def loP (n k : Int) (f t : Pl) : Pl := (atP n k f.1 t.1 / n, atP n k f.2 t.2 / n)
def hiP (n k : Int) (f t : Pl) : Pl := ((atP n k f.1 t.1 + n - 1) / n, (atP n k f.2 t.2 + n - 1) / n)
/-- The height of the ground at a crossing, multiplied by the steps. -/
def grP (g : List Int) (wd n k : Int) (f t : Pl) : Int := (n - beyP n k f t) * hAt g wd (loP n k f t) + beyP n k f t * hAt g wd (hiP n k f t)
theorem atP_bd {n k f t m : Int} (h1 : 0 ≤ k) (h2 : k ≤ n) (hn : 1 ≤ n) (hf : 0 ≤ f ∧ f < m) (ht : 0 ≤ t ∧ t < m) : 0 ≤ atP n k f t ∧ atP n k f t ≤ n * (m - 1) := by
  have a1 : 0 ≤ (n - k) * f := Int.mul_nonneg (by omega) hf.1
  have a2 : (n - k) * f ≤ (n - k) * (m - 1) := Int.mul_le_mul_of_nonneg_left (by omega) (by omega)
  have a3 : 0 ≤ k * t := Int.mul_nonneg h1 ht.1
  have a4 : k * t ≤ k * (m - 1) := Int.mul_le_mul_of_nonneg_left (by omega) h1
  have a5 : (n - k) * (m - 1) + k * (m - 1) = n * (m - 1) := by rw [← Int.add_mul]; congr 1; omega
  unfold atP
  omega
theorem div_bd {a n m : Int} (hn : 1 ≤ n) (h0 : 0 ≤ a) (h1 : a ≤ n * (m - 1)) : 0 ≤ a / n ∧ a / n < m ∧ 0 ≤ (a + n - 1) / n ∧ (a + n - 1) / n < m := by
  refine ⟨Int.ediv_nonneg h0 (by omega), ?_, Int.ediv_nonneg (by omega) (by omega), ?_⟩
  · exact Int.ediv_lt_of_lt_mul (by omega) (by rw [Int.mul_comm m n]; have := Int.mul_sub n m 1; omega)
  · exact Int.ediv_lt_of_lt_mul (by omega) (by rw [Int.mul_comm m n]; have := Int.mul_sub n m 1; omega)
/-- A place on a valid map has a height. -/
theorem on_idx {wd hg : Int} {g : List Int} {p : Pl} (hm : vmB wd hg g = true) (h : onB wd hg p = true) : (0 ≤ p.2 * wd ∧ p.2 * wd ≤ 2401) ∧ 0 ≤ p.2 * wd + p.1 ∧ p.2 * wd + p.1 < g.length ∧ g.length ≤ 2401 := by
  obtain ⟨a1, a2, a3, a4, a5, _⟩ := vmB_ok hm
  unfold onB at h
  simp only [Bool.and_eq_true, decide_eq_true_eq] at h
  obtain ⟨⟨⟨h1, h2⟩, h3⟩, h4⟩ := h
  have b1 : 0 ≤ p.2 * wd := Int.mul_nonneg h3 (by omega)
  have b2 : p.2 * wd ≤ (hg - 1) * wd := Int.mul_le_mul_of_nonneg_right (by omega) (by omega)
  have b3 : (hg - 1) * wd = wd * hg - wd := by rw [Int.sub_mul, Int.mul_comm hg wd]; omega
  have b4 : wd * hg ≤ 49 * 49 := Int.mul_le_mul a2 a4 (by omega) (by omega)
  omega
theorem hAt_bd {wd hg : Int} {g : List Int} {p : Pl} (hm : vmB wd hg g = true) (h : onB wd hg p = true) : 0 ≤ hAt g wd p ∧ hAt g wd p ≤ 4000 := by
  obtain ⟨_, h2, h3, _⟩ := on_idx hm h
  obtain ⟨_, _, _, _, _, h6⟩ := vmB_ok hm
  unfold hAt
  have hk : (p.2 * wd + p.1).toNat < g.length := by omega
  have := h6 _ (int_mem hk)
  exact this
theorem onB_mk {wd hg : Int} {p : Pl} (h : 0 ≤ p.1 ∧ p.1 < wd ∧ 0 ≤ p.2 ∧ p.2 < hg) : onB wd hg p = true := by
  unfold onB; simp [h]
theorem onB_ok {wd hg : Int} {p : Pl} (h : onB wd hg p = true) : 0 ≤ p.1 ∧ p.1 < wd ∧ 0 ≤ p.2 ∧ p.2 < hg := by
  unfold onB at h
  simp only [Bool.and_eq_true, decide_eq_true_eq] at h
  omega

/-- What lies where while meet goes on. -/
structure MtS (w W : World) (o : Value) (wd hg : Int) (f t : Pl) (ax k n : Int) (l h : Pl) : Prop where
  below : Below w.heap.size w W
  big : w.heap.size + 8 ≤ W.heap.size
  m : W.heap[w.heap.size]? = some (.cells #[.int .i64 wd, .int .i64 hg, o] 24 (0, 0))
  f : W.heap[w.heap.size + 1]? = some (.cells #[.int .i64 f.1, .int .i64 f.2] 72 (0, 0))
  t : W.heap[w.heap.size + 2]? = some (.cells #[.int .i64 t.1, .int .i64 t.2] 72 (0, 0))
  r : W.heap[w.heap.size + 4]? = some (.cells #[.int .i64 0, .int .i64 0, .int .i64 0, .int .i64 0] 102 (0, 0))
  out : W.heap[w.heap.size + 5]? = some (.cells #[.int .i64 ax, .int .i64 k, .int .i64 n, .int .i64 0] 102 (0, 0))
  lo : W.heap[w.heap.size + 6]? = some (.cells #[.int .i64 l.1, .int .i64 l.2] 72 (0, 0))
  hi : W.heap[w.heap.size + 7]? = some (.cells #[.int .i64 h.1, .int .i64 h.2] 72 (0, 0))
theorem MtS.start (w : World) (o : Value) (wd hg : Int) (f t : Pl) (ax k n : Int) :
    MtS w ((((((((w.alloc (.cells #[.int .i64 wd, .int .i64 hg, o] 24)).alloc (.cells #[.int .i64 f.1, .int .i64 f.2] 72)).alloc (.cells #[.int .i64 t.1, .int .i64 t.2] 72)).alloc (.cells #[.int .i64 ax, .int .i64 k] 60)).alloc
      (.cells #[.int .i64 0, .int .i64 0, .int .i64 0, .int .i64 0] 102)).alloc (.cells #[.int .i64 ax, .int .i64 k, .int .i64 n, .int .i64 0] 102)).alloc (.cells #[.int .i64 0, .int .i64 0] 72)).alloc (.cells #[.int .i64 0, .int .i64 0] 72)) o wd hg f t ax k n (0, 0) (0, 0) := by
  refine ⟨?_, by simp, ?_, ?_, ?_, ?_, ?_, ?_, ?_⟩
  · exact (((((((((Below.refl _ w).alloc (Nat.le_refl _) _).alloc (by simp) _).alloc (by simp; omega) _).alloc (by simp; omega) _).alloc (by simp; omega) _).alloc (by simp; omega) _).alloc (by simp; omega) _).alloc (by simp; omega) _)
  all_goals
    repeat first
      | exact gAt _ _ _ (by first | omega | (simp only [World.size_alloc]; done) | (simp only [World.size_alloc]; omega))
      | rw [gNe _ _ _ (by first | omega | (simp only [World.size_alloc]; omega))]

theorem MtS.same {w W W' : World} {o : Value} {wd hg : Int} {f t : Pl} {ax k n : Int} {l h : Pl} (H : MtS w W o wd hg f t ax k n l h) (hb : Below w.heap.size w W') (hs : W.heap.size ≤ W'.heap.size) (he : ∀ b, b < w.heap.size + 8 → W'.heap[b]? = W.heap[b]?) : MtS w W' o wd hg f t ax k n l h :=
  ⟨hb, Nat.le_trans H.big hs, (he _ (by omega)).trans H.m, (he _ (by omega)).trans H.f, (he _ (by omega)).trans H.t, (he _ (by omega)).trans H.r, (he _ (by omega)).trans H.out, (he _ (by omega)).trans H.lo, (he _ (by omega)).trans H.hi⟩
theorem MtS.keep {w W W' : World} {o : Value} {wd hg : Int} {f t : Pl} {ax k n : Int} {l h : Pl} (H : MtS w W o wd hg f t ax k n l h) (hb : Below W.heap.size W W') : MtS w W' o wd hg f t ax k n l h :=
  H.same (H.below.trans (hb.mono H.below.size)) hb.size (fun b hb' => hb.block b (by have := H.big; omega))
theorem MtS.drew {w W : World} {o : Value} {wd hg : Int} {f t : Pl} {ax k n : Int} {l h : Pl} (H : MtS w W o wd hg f t ax k n l h) : MtS w W.drew o wd hg f t ax k n l h := H.same H.below.drew (Nat.le_refl _) (fun _ _ => rfl)
theorem MtS.drewN {w W : World} {o : Value} {wd hg : Int} {f t : Pl} {ax k n : Int} {l h : Pl} (H : MtS w W o wd hg f t ax k n l h) (m : Nat) : MtS w (W.drewN m) o wd hg f t ax k n l h := H.same (by rw [show W.drewN m = W.drewN m from rfl]; exact ⟨H.below.os, H.below.tape, H.below.output, H.below.size, H.below.block⟩) (Nat.le_refl _) (fun _ _ => rfl)
/-- A pair with one of its numbers set. -/
def setP (p : Pl) (j : Nat) (v : Int) : Pl := if j = 0 then (v, p.2) else (p.1, v)
theorem setP_cells (p : Pl) (j : Nat) (v : Int) (hj : j < 2) : (#[.int .i64 p.1, .int .i64 p.2] : Array Value).setIfInBounds j (.int .i64 v) = #[.int .i64 (setP p j v).1, .int .i64 (setP p j v).2] := by
  rcases j with _ | _ | j
  · rfl
  · rfl
  · omega
theorem MtS.setLo {w W : World} {o : Value} {wd hg : Int} {f t : Pl} {ax k n : Int} {l h : Pl} (H : MtS w W o wd hg f t ax k n l h) (j : Nat) (v : Int) (hj : j < 2) : MtS w (W.setCell ⟨w.heap.size + 6, j, none⟩ (.int .i64 v)) o wd hg f t ax k n (setP l j v) h := by
  have ho : ∀ b, b ≠ w.heap.size + 6 → (W.setCell ⟨w.heap.size + 6, j, none⟩ (.int .i64 v)).heap[b]? = W.heap[b]? := fun b hb => heap_other _ _ _ _ _ hb
  refine ⟨H.below.setCell (p := ⟨w.heap.size + 6, j, none⟩) (by simp) _, by rw [size_set]; exact H.big, (ho _ (by omega)).trans H.m, (ho _ (by omega)).trans H.f, (ho _ (by omega)).trans H.t, (ho _ (by omega)).trans H.r, (ho _ (by omega)).trans H.out, ?_, (ho _ (by omega)).trans H.hi⟩
  rw [← setP_cells l j v hj]; exact heap_same H.lo _ _
theorem MtS.setHi {w W : World} {o : Value} {wd hg : Int} {f t : Pl} {ax k n : Int} {l h : Pl} (H : MtS w W o wd hg f t ax k n l h) (j : Nat) (v : Int) (hj : j < 2) : MtS w (W.setCell ⟨w.heap.size + 7, j, none⟩ (.int .i64 v)) o wd hg f t ax k n l (setP h j v) := by
  have ho : ∀ b, b ≠ w.heap.size + 7 → (W.setCell ⟨w.heap.size + 7, j, none⟩ (.int .i64 v)).heap[b]? = W.heap[b]? := fun b hb => heap_other _ _ _ _ _ hb
  refine ⟨H.below.setCell (p := ⟨w.heap.size + 7, j, none⟩) (by simp) _, by rw [size_set]; exact H.big, (ho _ (by omega)).trans H.m, (ho _ (by omega)).trans H.f, (ho _ (by omega)).trans H.t, (ho _ (by omega)).trans H.r, (ho _ (by omega)).trans H.out, (ho _ (by omega)).trans H.lo, ?_⟩
  rw [← setP_cells h j v hj]; exact heap_same H.hi _ _

set_option maxRecDepth 100000 in
set_option maxHeartbeats 4000000 in
theorem meet_any (wd hg : Int) (o : Value) (g : List Int) (f t : Pl) (ax n k : Int) (w : World) (hv : INRow w o g) (hm : vmB wd hg g = true) (hf : onB wd hg f = true) (ht : onB wd hg t = true) (hk : 0 ≤ k ∧ k ≤ n) (hn : 1 ≤ n ∧ n ≤ 48) :
    Calls Try.prog 74 #[mpV wd hg o, .agg #[.int .i64 f.1, .int .i64 f.2], .agg #[.int .i64 t.1, .int .i64 t.2], .int .i64 n, .agg #[.int .i64 ax, .int .i64 k]] w fun e w' => e = .returned (mtV ⟨ax, k, n, grP g wd n k f t⟩) ∧ Below w.heap.size w w' := by
  have hst := MtS.start w o wd hg f t ax k n
  obtain ⟨oa, oc, rfl, _⟩ := hv.form
  obtain ⟨f1, f2⟩ := f
  obtain ⟨t1, t2⟩ := t
  simp only at hst
  obtain ⟨W8, hW8⟩ : ∃ W8, ((((((((w.alloc (.cells #[.int .i64 wd, .int .i64 hg, .slice oa g.length oc] 24)).alloc (.cells #[.int .i64 f1, .int .i64 f2] 72)).alloc (.cells #[.int .i64 t1, .int .i64 t2] 72)).alloc (.cells #[.int .i64 ax, .int .i64 k] 60)).alloc
      (.cells #[.int .i64 0, .int .i64 0, .int .i64 0, .int .i64 0] 102)).alloc (.cells #[.int .i64 ax, .int .i64 k, .int .i64 n, .int .i64 0] 102)).alloc (.cells #[.int .i64 0, .int .i64 0] 72)).alloc (.cells #[.int .i64 0, .int .i64 0] 72)) = W8 := ⟨_, rfl⟩
  rw [hW8] at hst
  have HW8 := Lib.hid hW8
  have HST := Lib.hid hst
  have HV := Lib.hid hv
  clear hW8 hst hv
  unfold mpV
  simp only
  go_enter Try.func74, Try.ntmps74
  go_wp2_with fail
  rw [HW8.out]
  go_loopw [14, 22] (fun b i wr => ∃ (j : Nat) (q : Int) (l h : Pl), b = .int .i64 q ∧ i = .int .i64 j ∧ ((j = 0 ∧ q = 0 ∧ l = (0, 0) ∧ h = (0, 0)) ∨ (j = 1 ∧ q = atP n k f1 t1 % n ∧ l = (atP n k f1 t1 / n, 0) ∧ h = ((atP n k f1 t1 + n - 1) / n, 0)) ∨
    (j = 2 ∧ q = beyP n k (f1, f2) (t1, t2) ∧ l = loP n k (f1, f2) (t1, t2) ∧ h = hiP n k (f1, f2) (t1, t2))) ∧ Hid (MtS w wr (.slice oa g.length oc) wd hg (f1, f2) (t1, t2) ax k n l h)) (fun _ i _ => 2 - (intOf i).toNat)
  case atStart => exact ⟨0, 0, _, _, rfl, rfl, .inl ⟨rfl, rfl, rfl, rfl⟩, HST⟩
  case round =>
    obtain ⟨j, q, l, h, rfl, rfl, hj, hS⟩ := hrel
    have hz1 : ¬ n = 0 := by omega
    rcases hj with ⟨rfl, rfl, rfl, rfl⟩ | ⟨rfl, rfl, rfl, rfl⟩ | ⟨rfl, rfl, rfl, rfl⟩
    · have K0 : Hid (∀ W', Below wr.heap.size wr W' → W'.cell? ⟨w.heap.size + 5, 0, none⟩ = some (.int .i64 ax) ∧ W'.cell? ⟨w.heap.size + 5, 1, none⟩ = some (.int .i64 k) ∧ W'.cell? ⟨w.heap.size + 5, 2, none⟩ = some (.int .i64 n) ∧ W'.cell? ⟨w.heap.size + 5, 3, none⟩ = some (.int .i64 0) ∧
          W'.cell? ⟨w.heap.size + 1, 0, none⟩ = some (.int .i64 f1) ∧ W'.cell? ⟨w.heap.size + 2, 0, none⟩ = some (.int .i64 t1)) := Lib.hid (fun W' hb => by
        have hbig := hS.out.big
        have x5 := (hb.block (w.heap.size + 5) (by omega)).trans hS.out.out
        have x1 := (hb.block (w.heap.size + 1) (by omega)).trans hS.out.f
        have x2 := (hb.block (w.heap.size + 2) (by omega)).trans hS.out.t
        exact ⟨cellH x5 0, cellH x5 1, cellH x5 2, cellH x5 3, cellH x1 0, cellH x2 0⟩)
      have hp := onB_ok hf
      have hq := onB_ok ht
      have hmk := vmB_ok hm
      simp only at hp hq
      have CP : Hid (∀ w', Below wr.heap.size wr w' → Calls Try.prog 78 #[.agg #[.int .i64 ax, .int .i64 k, .int .i64 n, .int .i64 0], .int .i64 f1, .int .i64 t1] w' fun e w'' => e = .returned (.int .i64 (atP n k f1 t1)) ∧ Below wr.heap.size wr w'') := Lib.hid (fun w' h => (part_any ⟨ax, k, n, 0⟩ f1 t1 w' ⟨hk.1, hk.2, hn.2⟩ (by omega) (by omega)).mono fun e w'' ⟨he, hh⟩ => ⟨he, h.trans (hh.mono h.size)⟩)
      obtain ⟨b1, b2⟩ := atP_bd (n := n) (k := k) (f := f1) (t := t1) (m := 49) hk.1 hk.2 hn.1 (by omega) (by omega)
      clear hp hq hmk
      go_wp2_with fail
      refine wp_region_turn 8 (fun _ w' => Below wr.heap.size wr w') (by kernel_rfl) (by kernel_rfl) ((Below.refl _ wr).drew) ?_
      simp only [List.take_succ_cons, List.take_zero, List.drop_succ_cons, List.drop_zero]
      iterate 8
        (first
          | (apply turnC_step (by rfl); (intro w' hw'; go_simp; exact CP.out w' hw'))
          | (apply turnC_step (by rfl); (intro w' hw'; obtain ⟨q0, q1, q2, q3, q4, q5⟩ := K0.out w' hw'; go_simp; first | exact ⟨hw', rfl⟩ | exact rfl)))
        simp only [Act.put, List.setIfInBounds_toArray, List.set_cons_succ, List.set_cons_zero]
      intro listed w9 _ hw9
      have hS9 := hS.out.keep hw9
      obtain ⟨A, hA⟩ : ∃ A, atP n k f1 t1 = A := ⟨_, rfl⟩
      rw [hA] at b1 b2 CP ⊢
      have HAA := Lib.hid hA
      have e1 : IntKind.i64.wrap (A + n) = A + n := IntWalk.i64_in _ (by omega)
      have e2 : IntKind.i64.wrap (A + n - 1) = A + n - 1 := IntWalk.i64_in _ (by omega)
      have d1 : A.tdiv n = A / n := Int.tdiv_eq_ediv_of_nonneg (by omega)
      have d2 : (A + n - 1).tdiv n = (A + n - 1) / n := Int.tdiv_eq_ediv_of_nonneg (by omega)
      have d3 : A.tmod n = A % n := Int.tmod_eq_emod_of_nonneg (by omega)
      have w1 : wrap64 (A + n) = A + n := w64 (by omega)
      have w2 : wrap64 (A + n - 1) = A + n - 1 := w64 (by omega)
      have w3 : wrap64 (A / n) = A / n := w64 (by
        have := Int.ediv_nonneg b1 (by omega : 0 ≤ n)
        have := Int.ediv_le_self n b1
        omega)
      have w4 : wrap64 ((A + n - 1) / n) = (A + n - 1) / n := w64 (by
        have := Int.ediv_nonneg (by omega : 0 ≤ A + n - 1) (by omega : 0 ≤ n)
        have := Int.ediv_le_self n (by omega : 0 ≤ A + n - 1)
        omega)
      have w5 : IntKind.i64.wrap (A % n) = A % n := IntWalk.i64_in _ (by
        have := Int.emod_nonneg A hz1
        have := Int.emod_lt_of_pos A (by omega : 0 < n)
        omega)
      have w6 : wrap64 (A % n) = A % n := w64 (by
        have := Int.emod_nonneg A hz1
        have := Int.emod_lt_of_pos A (by omega : 0 < n)
        omega)
      have l0 := cellH hS9.lo 0
      have l1 := cellH hS9.lo 1
      have h0 := cellH hS9.hi 0
      have h1 := cellH hS9.hi 1
      have lf := freeH hS9.lo
      have hf' := freeH hS9.hi
      simp at l0 l1 h0 h1
      have HS9 := Lib.hid hS9
      clear hS9 hw9 hA K0 CP hS b1 b2
      go_wp2_with fail
      have HT : Hid (∀ p, MtS w ((w9.setCell ⟨w.heap.size + 6, 0, none⟩ (.int .i64 (A / n))).setCell ⟨w.heap.size + 7, 0, none⟩ (.int .i64 p)) (.slice oa g.length oc) wd hg (f1, f2) (t1, t2) ax k n (A / n, 0) (p, 0)) := Lib.hid (fun p => (HS9.out.setLo 0 (A / n) (by omega)).setHi 0 p (by omega))
      go_region
      go_wp2_with fail
      go_roundw
      case rel => exact ⟨1, _, _, _, rfl, rfl, .inr (.inl ⟨rfl, by rw [HAA.out], rfl, rfl⟩), by rw [HAA.out]; exact Lib.hid ((HT.out _).drew)⟩
      case measure => simp [intOf]
    · have K0 : Hid (∀ W', Below wr.heap.size wr W' → W'.cell? ⟨w.heap.size + 5, 0, none⟩ = some (.int .i64 ax) ∧ W'.cell? ⟨w.heap.size + 5, 1, none⟩ = some (.int .i64 k) ∧ W'.cell? ⟨w.heap.size + 5, 2, none⟩ = some (.int .i64 n) ∧ W'.cell? ⟨w.heap.size + 5, 3, none⟩ = some (.int .i64 0) ∧
          W'.cell? ⟨w.heap.size + 1, 1, none⟩ = some (.int .i64 f2) ∧ W'.cell? ⟨w.heap.size + 2, 1, none⟩ = some (.int .i64 t2)) := Lib.hid (fun W' hb => by
        have hbig := hS.out.big
        have x5 := (hb.block (w.heap.size + 5) (by omega)).trans hS.out.out
        have x1 := (hb.block (w.heap.size + 1) (by omega)).trans hS.out.f
        have x2 := (hb.block (w.heap.size + 2) (by omega)).trans hS.out.t
        exact ⟨cellH x5 0, cellH x5 1, cellH x5 2, cellH x5 3, cellH x1 1, cellH x2 1⟩)
      have hp := onB_ok hf
      have hq := onB_ok ht
      have hmk := vmB_ok hm
      simp only at hp hq
      have CP : Hid (∀ w', Below wr.heap.size wr w' → Calls Try.prog 78 #[.agg #[.int .i64 ax, .int .i64 k, .int .i64 n, .int .i64 0], .int .i64 f2, .int .i64 t2] w' fun e w'' => e = .returned (.int .i64 (atP n k f2 t2)) ∧ Below wr.heap.size wr w'') := Lib.hid (fun w' h => (part_any ⟨ax, k, n, 0⟩ f2 t2 w' ⟨hk.1, hk.2, hn.2⟩ (by omega) (by omega)).mono fun e w'' ⟨he, hh⟩ => ⟨he, h.trans (hh.mono h.size)⟩)
      obtain ⟨b1, b2⟩ := atP_bd (n := n) (k := k) (f := f2) (t := t2) (m := 49) hk.1 hk.2 hn.1 (by omega) (by omega)
      have HBy : Hid (beyP n k (f1, f2) (t1, t2) = atP n k f1 t1 % n + atP n k f2 t2 % n ∧ loP n k (f1, f2) (t1, t2) = (atP n k f1 t1 / n, atP n k f2 t2 / n) ∧ hiP n k (f1, f2) (t1, t2) = ((atP n k f1 t1 + n - 1) / n, (atP n k f2 t2 + n - 1) / n)) := Lib.hid ⟨rfl, rfl, rfl⟩
      obtain ⟨B, hB⟩ : ∃ B, atP n k f1 t1 = B := ⟨_, rfl⟩
      rw [hB] at hS HBy ⊢
      obtain ⟨B2, hB2⟩ : ∃ B2, (B + n - 1) / n = B2 := ⟨_, rfl⟩
      obtain ⟨B1, hB1⟩ : ∃ B1, B / n = B1 := ⟨_, rfl⟩
      obtain ⟨B0, hB0⟩ : ∃ B0, B % n = B0 := ⟨_, rfl⟩
      have hB00 : 0 ≤ B0 ∧ B0 < 48 := by
        have := Int.emod_nonneg B hz1
        have := Int.emod_lt_of_pos B (by omega : 0 < n)
        omega
      rw [hB1, hB2] at hS
      rw [hB0, hB1, hB2] at HBy
      rw [hB0]
      clear hp hq hmk hB hB0 hB1 hB2
      go_wp2_with fail
      refine wp_region_turn 8 (fun _ w' => Below wr.heap.size wr w') (by kernel_rfl) (by kernel_rfl) ((Below.refl _ wr).drew) ?_
      simp only [List.take_succ_cons, List.take_zero, List.drop_succ_cons, List.drop_zero]
      iterate 8
        (first
          | (apply turnC_step (by rfl); (intro w' hw'; go_simp; exact CP.out w' hw'))
          | (apply turnC_step (by rfl); (intro w' hw'; obtain ⟨q0, q1, q2, q3, q4, q5⟩ := K0.out w' hw'; go_simp; first | exact ⟨hw', rfl⟩ | exact rfl)))
        simp only [Act.put, List.setIfInBounds_toArray, List.set_cons_succ, List.set_cons_zero]
      intro listed w9 _ hw9
      have hS9 := hS.out.keep hw9
      obtain ⟨A, hA⟩ : ∃ A, atP n k f2 t2 = A := ⟨_, rfl⟩
      rw [hA] at b1 b2 CP HBy ⊢
      have HAA := Lib.hid hA
      have e1 : IntKind.i64.wrap (A + n) = A + n := IntWalk.i64_in _ (by omega)
      have e2 : IntKind.i64.wrap (A + n - 1) = A + n - 1 := IntWalk.i64_in _ (by omega)
      have d1 : A.tdiv n = A / n := Int.tdiv_eq_ediv_of_nonneg (by omega)
      have d2 : (A + n - 1).tdiv n = (A + n - 1) / n := Int.tdiv_eq_ediv_of_nonneg (by omega)
      have d3 : A.tmod n = A % n := Int.tmod_eq_emod_of_nonneg (by omega)
      have w1 : wrap64 (A + n) = A + n := w64 (by omega)
      have w2 : wrap64 (A + n - 1) = A + n - 1 := w64 (by omega)
      have w3 : wrap64 (A / n) = A / n := w64 (by
        have := Int.ediv_nonneg b1 (by omega : 0 ≤ n)
        have := Int.ediv_le_self n b1
        omega)
      have w4 : wrap64 ((A + n - 1) / n) = (A + n - 1) / n := w64 (by
        have := Int.ediv_nonneg (by omega : 0 ≤ A + n - 1) (by omega : 0 ≤ n)
        have := Int.ediv_le_self n (by omega : 0 ≤ A + n - 1)
        omega)
      have hm1 := Int.emod_nonneg A hz1
      have hm2 := Int.emod_lt_of_pos A (by omega : 0 < n)
      have w5 : IntKind.i64.wrap (B0 + A % n) = B0 + A % n := IntWalk.i64_in _ (by omega)
      have w7 : wrap64 (B0 + A % n) = B0 + A % n := w64 (by omega)
      clear hm1 hm2
      have w6 : wrap64 (A % n) = A % n := w64 (by
        have := Int.emod_nonneg A hz1
        have := Int.emod_lt_of_pos A (by omega : 0 < n)
        omega)
      have l0 := cellH hS9.lo 0
      have l1 := cellH hS9.lo 1
      have h0 := cellH hS9.hi 0
      have h1 := cellH hS9.hi 1
      have lf := freeH hS9.lo
      have hf' := freeH hS9.hi
      simp at l0 l1 h0 h1
      have HS9 := Lib.hid hS9
      clear hS9 hw9 hA K0 CP hS b1 b2
      go_wp2_with fail
      have HT : Hid (∀ p, MtS w ((w9.setCell ⟨w.heap.size + 6, 1, none⟩ (.int .i64 (A / n))).setCell ⟨w.heap.size + 7, 1, none⟩ (.int .i64 p)) (.slice oa g.length oc) wd hg (f1, f2) (t1, t2) ax k n (B1, A / n) (B2, p)) := Lib.hid (fun p => (HS9.out.setLo 1 (A / n) (by omega)).setHi 1 p (by omega))
      go_region
      go_wp2_with fail
      go_roundw
      case rel => exact ⟨2, _, _, _, rfl, rfl, .inr (.inr ⟨rfl, by rw [HBy.out.1], HBy.out.2.1.symm, HBy.out.2.2.symm⟩), Lib.hid ((HT.out _).drew)⟩
      case measure => simp [intOf]
    · have hfo := onB_ok hf
      have hto := onB_ok ht
      obtain ⟨v1, v2, v3, v4, v5, v6⟩ := vmB_ok hm
      simp only at hfo hto
      obtain ⟨b1, b2⟩ := atP_bd (n := n) (k := k) (f := f1) (t := t1) (m := wd) hk.1 hk.2 hn.1 (by omega) (by omega)
      obtain ⟨b3, b4⟩ := atP_bd (n := n) (k := k) (f := f2) (t := t2) (m := hg) hk.1 hk.2 hn.1 (by omega) (by omega)
      obtain ⟨d1, d2, d3, d4⟩ := div_bd hn.1 b1 b2
      obtain ⟨d5, d6, d7, d8⟩ := div_bd hn.1 b3 b4
      have hlo : onB wd hg (loP n k (f1, f2) (t1, t2)) = true := onB_mk ⟨d1, d2, d5, d6⟩
      have hhi : onB wd hg (hiP n k (f1, f2) (t1, t2)) = true := onB_mk ⟨d3, d4, d7, d8⟩
      obtain ⟨i1, i2, i3, i4⟩ := on_idx hm hlo
      obtain ⟨j1, j2, j3, j4⟩ := on_idx hm hhi
      have HC1 := Lib.hid (fun w' (h : Below w.heap.size w w') => heightAt_any wd hg (.slice oa g.length oc) g (loP n k (f1, f2) (t1, t2)) w' (HV.out.keep h) (by omega) ⟨i2, i3⟩ (by omega))
      have HC2 := Lib.hid (fun w' (h : Below w.heap.size w w') => heightAt_any wd hg (.slice oa g.length oc) g (hiP n k (f1, f2) (t1, t2)) w' (HV.out.keep h) (by omega) ⟨j2, j3⟩ (by omega))
      obtain ⟨x1, x2⟩ := hAt_bd hm hlo
      obtain ⟨y1, y2⟩ := hAt_bd hm hhi
      have hG : Hid (grP g wd n k (f1, f2) (t1, t2) = (n - beyP n k (f1, f2) (t1, t2)) * hAt g wd (loP n k (f1, f2) (t1, t2)) + beyP n k (f1, f2) (t1, t2) * hAt g wd (hiP n k (f1, f2) (t1, t2))) := Lib.hid rfl
      have q1 : 0 ≤ beyP n k (f1, f2) (t1, t2) ∧ beyP n k (f1, f2) (t1, t2) ≤ 96 := by
        have := Int.emod_nonneg (atP n k f1 t1) hz1
        have := Int.emod_nonneg (atP n k f2 t2) hz1
        have := Int.emod_lt_of_pos (atP n k f1 t1) (by omega : 0 < n)
        have := Int.emod_lt_of_pos (atP n k f2 t2) (by omega : 0 < n)
        unfold beyP
        simp only
        omega
      obtain ⟨q, hq⟩ : ∃ q, beyP n k (f1, f2) (t1, t2) = q := ⟨_, rfl⟩
      obtain ⟨⟨l1, l2⟩, hl⟩ : ∃ l, loP n k (f1, f2) (t1, t2) = l := ⟨_, rfl⟩
      obtain ⟨⟨h1, h2⟩, hh⟩ : ∃ l, hiP n k (f1, f2) (t1, t2) = l := ⟨_, rfl⟩
      rw [hq] at q1 hG ⊢
      rw [hl] at x1 x2 HC1 hG hS
      rw [hh] at y1 y2 HC2 hG hS
      obtain ⟨X, hX⟩ : ∃ X, hAt g wd (l1, l2) = X := ⟨_, rfl⟩
      obtain ⟨Y, hY⟩ : ∃ Y, hAt g wd (h1, h2) = Y := ⟨_, rfl⟩
      rw [hX] at x1 x2 HC1 hG
      rw [hY] at y1 y2 HC2 hG
      have p1 : -(96 * 4000) ≤ (n - q) * X ∧ (n - q) * X ≤ 96 * 4000 := by
        rcases Int.le_total 0 (n - q) with h | h
        · exact ⟨by have := Int.mul_nonneg h x1; omega, by have := Int.mul_le_mul (by omega : n - q ≤ 48) x2 x1 (by omega); omega⟩
        · have := Int.mul_nonneg (by omega : 0 ≤ q - n) x1
          have h2 := Int.mul_le_mul (by omega : q - n ≤ 96) x2 x1 (by omega)
          have h3 : (q - n) * X = -((n - q) * X) := by rw [← Int.neg_mul]; congr 1; omega
          omega
      have p2 : 0 ≤ q * Y ∧ q * Y ≤ 96 * 4000 := ⟨Int.mul_nonneg q1.1 y1, Int.mul_le_mul q1.2 y2 y1 (by omega)⟩
      have e1 : IntKind.i64.wrap (n - q) = n - q := IntWalk.i64_in _ (by omega)
      have e2 : IntKind.i64.wrap ((n - q) * X) = (n - q) * X := IntWalk.i64_in _ (by omega)
      have e3 : IntKind.i64.wrap (q * Y) = q * Y := IntWalk.i64_in _ (by omega)
      have e4 : IntKind.i64.wrap ((n - q) * X + q * Y) = (n - q) * X + q * Y := IntWalk.i64_in _ (by omega)
      clear hfo hto v1 v2 v3 v4 v5 v6 b1 b2 b3 b4 d1 d2 d3 d4 d5 d6 d7 d8 hlo hhi i1 i2 i3 i4 j1 j2 j3 j4 x1 x2 y1 y2 q1 hq hl hh hX hY p1 p2 hf ht
      have hs := hS.out
      have m0 := cellH hs.m 0
      have m1 := cellH hs.m 1
      have m2 := cellH hs.m 2
      have u0 := cellH hs.lo 0
      have u1 := cellH hs.lo 1
      have r0 := cellH hs.hi 0
      have r1 := cellH hs.hi 1
      simp at m0 m1 m2 u0 u1 r0 r1
      unfold mpV plV at HC1 HC2
      simp only at HC1 HC2
      have HBB := Lib.hid hs.below
      have hbig := hs.big
      clear hs
      go_wp2_with fail
      refine (HC1.out _ HBB.out).mono ?_
      rintro e w9 ⟨rfl, hb9⟩
      have hS9 := hS.out.keep hb9
      clear m0 m1 m2 u0 u1 r0 r1
      have m0 := cellH hS9.m 0
      have m1 := cellH hS9.m 1
      have m2 := cellH hS9.m 2
      have r0 := cellH hS9.hi 0
      have r1 := cellH hS9.hi 1
      simp at m0 m1 m2 r0 r1
      have HS9 := Lib.hid hS9
      have HB9 := Lib.hid hS9.below
      clear hS9 hb9
      go_wp2_with fail
      refine (HC2.out _ HB9.out).mono ?_
      rintro e w10 ⟨rfl, hb10⟩
      have hS10 := HS9.out.keep hb10
      clear m0 m1 m2 r0 r1
      have o0 := cellH hS10.out 0
      have o1 := cellH hS10.out 1
      have o2 := cellH hS10.out 2
      have o3 := cellH hS10.out 3
      have of' := freeH hS10.out 3
      have r0 := cellH hS10.r 0
      have r1 := cellH hS10.r 1
      have r2 := cellH hS10.r 2
      have r3 := cellH hS10.r 3
      have rf := freeH hS10.r
      simp at o0 o1 o2 o3 r0 r1 r2 r3
      have HS10 := Lib.hid hS10
      clear hS10 hb10
      go_wp2_with fail
      have x1 := (heap_other w10 (w.heap.size + 5) 3 (.int .i64 ((n - q) * X + q * Y)) (w.heap.size + 4) (by omega)).trans HS10.out.r
      have x2 := heap_same (heap_same (heap_same (heap_same x1 0 (.int .i64 ax)) 1 (.int .i64 k)) 2 (.int .i64 n)) 3 (.int .i64 ((n - q) * X + q * Y))
      refine bodyPost_ret (results_cell_row Try.results74 _ _ (w.heap.size + 4) 102 #[.int .i64 ax, .int .i64 k, .int .i64 n, .int .i64 ((n - q) * X + q * Y)] (0, 0) _ rfl x2 Try.underlying102 rfl info_mt) rfl ?_
      exact ⟨by rw [hG.out]; rfl, ((((HS10.out.below.setCell (p := ⟨w.heap.size + 5, 3, none⟩) (by simp) _).setCell (p := ⟨w.heap.size + 4, 0, none⟩) (by simp) _).setCell (p := ⟨w.heap.size + 4, 1, none⟩) (by simp) _).setCell (p := ⟨w.heap.size + 4, 2, none⟩) (by simp) _).setCell (p := ⟨w.heap.size + 4, 3, none⟩) (by simp) _⟩
end Go.Proofs.Ytnacgogcbbpjmaa
