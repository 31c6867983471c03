/- The example of package firetowerlaw02. -/
import Derived.Test.YtiboolbndfhomaaND1
set_option linter.unusedVariables false
set_option linter.unusedSimpArgs false
namespace Go.Proofs.Ytiboolbndfhomaa
open Go.RowKit

def exLs : List Lk := [⟨0, 1, 5, [(0, 20), (100, 200)]⟩, ⟨1, 2, 10, [(12, 40)]⟩, ⟨0, 2, 50, [(0, 60)]⟩]
theorem example_results {tmps : Array Value} {w : World} {R : Nat} {u v : Value} (h4 : tmps.getD 0 undef = .pointer (some ⟨R, 0, none⟩)) (hg : w.heap[R]? = some (.cells #[u, v] 24 (0, 0))) : (results Try.f34 tmps).run Try.prog w = .ok (.agg #[u, v]) w := by
  have h4' : tmps[0]?.getD undef = .pointer (some ⟨R, 0, none⟩) := by simpa using h4
  simp [results, Try.results34, asAddr, h4', run_loadVar_row w R 24 24 #[u, v] (0, 0) _ hg Try.underlying24 rfl info_nt]
theorem heap5 (w : World) (a b c d e : Obj) : ((((((w.alloc a).alloc b).alloc c).alloc d).alloc e).heap[w.heap.size]? = some a ∧ (((((w.alloc a).alloc b).alloc c).alloc d).alloc e).heap[w.heap.size + 1]? = some b ∧
    (((((w.alloc a).alloc b).alloc c).alloc d).alloc e).heap[w.heap.size + 1 + 1]? = some c ∧ (((((w.alloc a).alloc b).alloc c).alloc d).alloc e).heap[w.heap.size + 1 + 1 + 1]? = some d ∧
    (((((w.alloc a).alloc b).alloc c).alloc d).alloc e).heap[w.heap.size + 1 + 1 + 1 + 1]? = some e) := by
  have s1 : (w.alloc a).heap.size = w.heap.size + 1 := by simp
  have s2 : ((w.alloc a).alloc b).heap.size = w.heap.size + 1 + 1 := by simp
  have s3 : (((w.alloc a).alloc b).alloc c).heap.size = w.heap.size + 1 + 1 + 1 := by simp
  have s4 : ((((w.alloc a).alloc b).alloc c).alloc d).heap.size = w.heap.size + 1 + 1 + 1 + 1 := by simp
  refine ⟨?_, ?_, ?_, ?_, ?_⟩
  · rw [gNe _ _ _ (by omega), gNe _ _ _ (by omega), gNe _ _ _ (by omega), gNe _ _ _ (by omega)]; exact heap_alloc_new _ _
  · rw [gNe _ _ _ (by omega), gNe _ _ _ (by omega), gNe _ _ _ (by omega), ← s1]; exact heap_alloc_new _ _
  · rw [gNe _ _ _ (by omega), gNe _ _ _ (by omega), ← s2]; exact heap_alloc_new _ _
  · rw [gNe _ _ _ (by omega), ← s3]; exact heap_alloc_new _ _
  · rw [← s4]; exact heap_alloc_new _ _
theorem below5 (w : World) (a b c d e : Obj) : Below w.heap.size w (((((w.alloc a).alloc b).alloc c).alloc d).alloc e) :=
  (((((Below.refl _ w).alloc (Nat.le_refl _) a).alloc (by simp) b).alloc (by simp; omega) c).alloc (by simp; omega) d).alloc (by simp; omega) e
theorem ex_row (W : World) (p : Nat) (h1 : W.heap[p + 1]? = some (.cells #[.int .i64 0, .int .i64 20, .int .i64 100, .int .i64 200] 52 (0, 0))) (h2 : W.heap[p + 1 + 1]? = some (.cells #[.int .i64 12, .int .i64 40] 52 (0, 0)))
    (h3 : W.heap[p + 1 + 1 + 1]? = some (.cells #[.int .i64 0, .int .i64 60] 52 (0, 0))) (h4 : W.heap[p + 1 + 1 + 1 + 1]? = some (.cells #[.int .i64 0, .int .i64 1, .int .i64 5, .slice (some ⟨p + 1, 0, none⟩) 2 2, .int .i64 1, .int .i64 2, .int .i64 10, .slice (some ⟨p + 1 + 1, 0, none⟩) 1 1, .int .i64 0, .int .i64 2, .int .i64 50, .slice (some ⟨p + 1 + 1 + 1, 0, none⟩) 1 1] 27 (0, 0))) :
    NRow W (.slice (some ⟨p + 1 + 1 + 1 + 1, 0, none⟩) 3 3) exLs := by
  refine ⟨.inr ⟨_, 0, 3, rfl, (Array.getElem?_eq_some_iff.1 h4).1, fun i hi => ?_⟩, by decide, by decide⟩
  have hi3 : i < 3 := hi
  simp only [cellH h4]
  rcases (by omega : i = 0 ∨ i = 1 ∨ i = 2) with rfl | rfl | rfl
  · refine ⟨rfl, rfl, rfl, _, rfl, .inr ⟨_, 0, 2, rfl, (Array.getElem?_eq_some_iff.1 h1).1, fun j hj => ?_⟩⟩
    have hj3 : j < 2 := hj
    simp only [cellH h1]
    rcases (by omega : j = 0 ∨ j = 1) with rfl | rfl <;> exact ⟨rfl, rfl⟩
  · refine ⟨rfl, rfl, rfl, _, rfl, .inr ⟨_, 0, 1, rfl, (Array.getElem?_eq_some_iff.1 h2).1, fun j hj => ?_⟩⟩
    have hj3 : j < 1 := hj
    simp only [cellH h2]
    obtain rfl : j = 0 := by omega
    exact ⟨rfl, rfl⟩
  · refine ⟨rfl, rfl, rfl, _, rfl, .inr ⟨_, 0, 1, rfl, (Array.getElem?_eq_some_iff.1 h3).1, fun j hj => ?_⟩⟩
    have hj3 : j < 1 := hj
    simp only [cellH h3]
    obtain rfl : j = 0 := by omega
    exact ⟨rfl, rfl⟩
set_option maxRecDepth 100000 in
set_option maxHeartbeats 2000000 in
theorem example_any (w : World) :
    Calls Try.prog 34 #[] w fun e w' => ∃ v, e = .returned (ntV 3 v) ∧ NRow w' v exLs ∧ Below w.heap.size w w' := by
  go_enter Try.func34, Try.ntmps34
  go_wp2_with fail
  have hb := below5 w (.cells #[.int .i64 3, .slice (some ⟨w.heap.size + 1 + 1 + 1 + 1, 0, none⟩) 3 3] 24) (.cells #[.int .i64 0, .int .i64 20, .int .i64 100, .int .i64 200] 52)
    (.cells #[.int .i64 12, .int .i64 40] 52) (.cells #[.int .i64 0, .int .i64 60] 52)
    (.cells #[.int .i64 0, .int .i64 1, .int .i64 5, .slice (some ⟨w.heap.size + 1, 0, none⟩) 2 2, .int .i64 1, .int .i64 2, .int .i64 10, .slice (some ⟨w.heap.size + 1 + 1, 0, none⟩) 1 1, .int .i64 0, .int .i64 2, .int .i64 50, .slice (some ⟨w.heap.size + 1 + 1 + 1, 0, none⟩) 1 1] 27)
  obtain ⟨g0, g1, g2, g3, g4⟩ := heap5 w (.cells #[.int .i64 3, .slice (some ⟨w.heap.size + 1 + 1 + 1 + 1, 0, none⟩) 3 3] 24) (.cells #[.int .i64 0, .int .i64 20, .int .i64 100, .int .i64 200] 52)
    (.cells #[.int .i64 12, .int .i64 40] 52) (.cells #[.int .i64 0, .int .i64 60] 52)
    (.cells #[.int .i64 0, .int .i64 1, .int .i64 5, .slice (some ⟨w.heap.size + 1, 0, none⟩) 2 2, .int .i64 1, .int .i64 2, .int .i64 10, .slice (some ⟨w.heap.size + 1 + 1, 0, none⟩) 1 1, .int .i64 0, .int .i64 2, .int .i64 50, .slice (some ⟨w.heap.size + 1 + 1 + 1, 0, none⟩) 1 1] 27)
  refine bodyPost_ret (example_results rfl g0) rfl ?_
  exact ⟨_, rfl, ex_row _ _ g1 g2 g3 g4, hb⟩

/-! What the calls of nets answer for the example. -/
theorem ex_nat : EndsNat exLs := by
  intro i hi
  have : i < 3 := hi
  rcases (by omega : i = 0 ∨ i = 1 ∨ i = 2) with rfl | rfl | rfl <;> exact ⟨rfl, rfl⟩
theorem ex_leave : leaveO (exLs.getD 0 .nil) 16 = some 100 := by decide
theorem ex_last : lastO (exLs.getD 0 .nil) 30 = some 15 := by decide
theorem ex_start (a t : Int) (h : stB 3 a = true) (h0 : 0 ≤ t) (h1 : t ≤ 1048576) : startE 3 exLs a t = 0 := by
  unfold startE
  rw [if_pos (by decide), if_pos ⟨h, h0, h1⟩]
theorem ex_way (a b t : Int) (h : stB 3 a = true) (k : stB 3 b = true) (h0 : 0 ≤ t) (h1 : t ≤ 1048576) : wayE 3 exLs a b t = 0 := by
  unfold wayE
  rw [if_pos (ex_start a t h h0 h1), if_pos k]
theorem ex_early {at' : List Int} {by' : List Sp} (h : Inv 3 exLs 0 16 at' by') (hs : Shut exLs at') : at' = [16, 105, -1] :=
  Inv.unique h (good_inv (by' := [(0, 0), (0, 100), (0, 0)]) (by decide)) hs (shutB_ok (by decide))
theorem ex_late {at' : List Int} (h : InvL 3 exLs 2 60 at') (hs : ShutL exLs at') : at' = [15, 30, 60] :=
  InvL.unique h (goodL_inv (by' := [0, 1, 0]) (by decide)) hs (shutLB_ok (by decide))
theorem ex_early3 {at' : List Int} {by' : List Sp} (h : Inv 3 exLs 0 3 at' by') (hs : Shut exLs at') : at' = [3, 8, 22] :=
  Inv.unique h (good_inv (by' := [(0, 0), (0, 3), (1, 12)]) (by decide)) hs (shutB_ok (by decide))
theorem ex_less0 {at' : List Int} {by' : List Sp} (h : Inv 3 (lessL exLs 0) 0 3 at' by') (hs : Shut (lessL exLs 0) at') : at' = [3, -1, 53] :=
  Inv.unique h (good_inv (by' := [(0, 0), (0, 0), (2, 3)]) (by decide)) hs (shutB_ok (by decide))
theorem ex_less1 {at' : List Int} {by' : List Sp} (h : Inv 3 (lessL exLs 1) 0 3 at' by') (hs : Shut (lessL exLs 1) at') : at' = [3, 8, 53] :=
  Inv.unique h (good_inv (by' := [(0, 0), (0, 3), (2, 3)]) (by decide)) hs (shutB_ok (by decide))
theorem ex_less2 {at' : List Int} {by' : List Sp} (h : Inv 3 (lessL exLs 2) 0 3 at' by') (hs : Shut (lessL exLs 2) at') : at' = [3, 8, 22] :=
  Inv.unique h (good_inv (by' := [(0, 0), (0, 3), (1, 12)]) (by decide)) hs (shutB_ok (by decide))
theorem ex_needed {c : Nat → Bool} (h : ∀ i, i < exLs.length → OtherAt 3 exLs 0 3 2 22 i (c i)) : numsL c exLs.length = [0, 1] := by
  obtain ⟨a0, b0, i0, s0, c0⟩ := h 0 (by decide)
  obtain ⟨a1, b1, i1, s1, c1⟩ := h 1 (by decide)
  obtain ⟨a2, b2, i2, s2, c2⟩ := h 2 (by decide)
  obtain rfl := ex_less0 i0 s0
  obtain rfl := ex_less1 i1 s1
  obtain rfl := ex_less2 i2 s2
  have e0 : c 0 = true := by rw [c0]; decide
  have e1 : c 1 = true := by rw [c1]; decide
  have e2 : c 2 = false := by rw [c2]; decide
  show ((List.range 3).filter c).map _ = _
  simp [List.range, List.range.loop, e0, e1, e2]
theorem ex_by {by' : List Sp} (h : Inv 3 exLs 0 3 [3, 8, 22] by') : (by'.getD 1 (0, 0)).1 = 0 ∧ (by'.getD 2 (0, 0)).1 = 1 := by
  constructor
  · obtain ⟨i, x, q1, q2, q3, q4, q5, q6, q7⟩ := h.hop 1 (by decide) (by decide) (by decide)
    rw [q2]
    have : i < 3 := q1
    rcases (by omega : i = 0 ∨ i = 1 ∨ i = 2) with rfl | rfl | rfl
    · rfl
    · cases q3
    · cases q3
  · obtain ⟨i, x, q1, q2, q3, q4, q5, q6, q7⟩ := h.hop 2 (by decide) (by decide) (by decide)
    rw [q2]
    have : i < 3 := q1
    rcases (by omega : i = 0 ∨ i = 1 ∨ i = 2) with rfl | rfl | rfl
    · cases q3
    · rfl
    · have hb := leaveO_bd q6
      have e1 : (lkA exLs 2).dl = 50 := rfl
      have e2 : at0 [3, 8, 22] 2 = 22 := rfl
      rw [e1, e2] at q7
      omega
theorem ex_trail {by' : List Sp} (h : Inv 3 exLs 0 3 [3, 8, 22] by') {s : Nat} {l : List Sp} (ht : Trail exLs by' 0 s l) : l.length = s ∧ s ≤ 2 := by
  obtain ⟨h1, h2⟩ := ex_by h
  induction ht with
  | nil => exact ⟨rfl, by omega⟩
  | snoc i hi hb hne _ ih =>
    have : i < 3 := hi
    rcases (by omega : i = 0 ∨ i = 1 ∨ i = 2) with rfl | rfl | rfl
    · have e : frN exLs 0 = 0 := rfl
      have e' : toN exLs 0 = 1 := rfl
      rw [e] at ih; rw [e']; simp [ih.1]
    · have e : frN exLs 1 = 1 := rfl
      have e' : toN exLs 1 = 2 := rfl
      rw [e] at ih; rw [e']; simp [ih.1]
    · have e' : toN exLs 2 = 2 := rfl
      rw [e', h2] at hb
      omega
theorem ex_checkway {by' : List Sp} {l : List Sp} (h : Inv 3 exLs 0 3 [3, 8, 22] by') (hs : Shut exLs [3, 8, 22]) (ht : Trail exLs by' 0 2 l) : wayR 3 exLs 0 2 3 l = (22, 0) := by
  have hg := Trail.go (st := 3) h hs (fun i hi => by have : i < 3 := hi; rcases (by omega : i = 0 ∨ i = 1 ∨ i = 2) with rfl | rfl | rfl <;> decide) ex_nat ht (by decide)
  have hl := (ex_trail h ht).1
  unfold wayR
  rw [if_pos (ex_way 0 2 3 (by decide) (by decide) (by decide) (by decide)), if_neg (by omega)]
  have hg' : goL exLs l 0 3 = some (2, 22) := hg
  rw [hg']
  rfl
theorem ex_bounds1 : boundsE 3 exLs 0 3 [3, 8, 22] = 0 := by decide
theorem ex_bounds2 : boundsE 3 exLs 0 3 [3, 8, 23] = 8 := by decide
end Go.Proofs.Ytiboolbndfhomaa
