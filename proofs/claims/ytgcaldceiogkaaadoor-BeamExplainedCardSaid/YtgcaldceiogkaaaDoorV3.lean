/- last of package beam: the part with which the flashes end. -/
import Derived.Test.YtgcaldceiogkaaaDoorE3
import Derived.Test.YtgcaldceiogkaaaDoorT0
import Derived.Test.YtgcaldceiogkaaaDoorC1
import Derived.RegionTactic
import Derived.BigRegion
import Derived.Deep.RegionLaw
namespace Go.Proofs.YtgcaldceiogkaaaDoor
open Go.RowKit Go.Shelf

theorem turnB_step {P : Program} {ops : Array Oper} {md : Region.Mode} {n : Nat} {W0 : World} {Q : Act → Prop} {o : Oper} {rest : List Oper} {k : Nat} {a : Act} {v : Value} (hw : Region.wanted o (yielded ops a.tmps) = true)
    (h1 : ∀ w', Below W0.heap.size W0 w' → TurnUpon P (fun w'' => Below W0.heap.size W0 w'') v ((execOp a.eval o).run P w')) (h2 : wpTurn P ops md n (fun _ w' => Below W0.heap.size W0 w') Q rest (k + 1) (a.put o.dst v)) :
    wpTurn P ops md n (fun _ w' => Below W0.heap.size W0 w') Q (o :: rest) k a := ⟨v, .inl ⟨hw, fun _ w _ _ hC => h1 w hC⟩, h2⟩

/-- The first part of the least number among the first parts. -/
def bestK (T : Nat → Nat → Int) (s r : List UInt8) (i j : Nat) : Nat → Nat
  | 0 => 0
  | k + 1 => if endI T s r k i j < endI T s r (bestK T s r i j k) i j then k else bestK T s r i j k
theorem bestK_lt (T : Nat → Nat → Int) (s r : List UInt8) (i j : Nat) : ∀ k : Nat, bestK T s r i j k < 4 ∨ 4 < k
  | 0 => .inl (by simp [bestK])
  | k + 1 => by
    rcases bestK_lt T s r i j k with h | h
    · simp only [bestK]
      split
      · omega
      · exact .inl h
    · right; omega
theorem bestK_le (T : Nat → Nat → Int) (s r : List UInt8) (i j : Nat) : ∀ k m : Nat, m < k → endI T s r (bestK T s r i j k) i j ≤ endI T s r m i j
  | 0, m, h => by omega
  | k + 1, m, h => by
    simp only [bestK]
    by_cases e : m = k
    · subst e; split <;> omega
    · have := bestK_le T s r i j k m (by omega)
      split <;> omega
def partN (k : Nat) : Array Value := #[.int .i64 k, .int .i64 (psN k), .int .i64 (prN k)]
theorem parts_cell (k : Nat) (hk : k < 4) : partsA.extract (k * 3) (k * 3 + 3) = partN k := by
  rcases (by omega : k = 0 ∨ k = 1 ∨ k = 2 ∨ k = 3) with rfl | rfl | rfl | rfl <;> rfl

set_option maxRecDepth 100000 in
set_option maxHeartbeats 400000 in
theorem last_any (w : World) (Sb base : Nat) (r : List UInt8) (most : Int) (sent : List UInt8) (T : Nat → Nat → Int) (i j : Nat) (hS : Sheet w Sb base r most sent T) (hi : i ≤ sent.length) (hj : j ≤ r.length) (hP : Parts w) :
    Calls Tryd.prog 63 #[.pointer (some ⟨Sb, 0, none⟩), .int .i64 i, .int .i64 j] w fun e w' => e = .returned (.agg (partN (bestK T sent r i j 4))) ∧ Below w.heap.size w w' := by
  obtain ⟨⟨ft, fr⟩, hpp⟩ := hP
  have hpl := (Array.getElem?_eq_some_iff.1 hpp).1
  have hp0 : w.cell? ⟨1, 0, none⟩ = some (.int .i64 0) := by rw [cell_of_heap hpp]; rfl
  have hp1 : w.cell? ⟨1, 1, none⟩ = some (.int .i64 1) := by rw [cell_of_heap hpp]; rfl
  have hp2 : w.cell? ⟨1, 2, none⟩ = some (.int .i64 1) := by rw [cell_of_heap hpp]; rfl
  have HP := Lib.hid hpp
  have HS := Lib.hid hS
  clear hpp hS
  go_enter Tryd.func63, Tryd.ntmps63
  go_wp2_with (((with_reducible refine wpList_load_row rfl 122 _ rfl 1 ?_ ft partsA fr (.array 4 106) ((Below.heap_alloc _ _ _ (by simp; omega)).trans ((Below.heap_alloc _ _ _ hpl).trans HP.out)) Tryd.underlying122 ?_ infoParts ?_); exact rfl; exact rfl))
  go_loopw [13] (fun kk wr => ∃ k : Nat, k ≤ 4 ∧ kk = .int .i64 k ∧ Hid (wr.heap[w.heap.size]? = some (.cells #[.int .i64 0, .int .i64 0, .int .i64 0] 106 (0, 0))) ∧ Hid (wr.heap[w.heap.size + 1]? = some (.cells (partN (bestK T sent r i j k)) 106 (0, 0))) ∧ Below w.heap.size w wr ∧ w.heap.size + 2 ≤ wr.heap.size) (fun kk _ => 4 - (intOf kk).toNat)
  case atStart =>
    refine ⟨0, by omega, rfl, Lib.hid ?_, Lib.hid ?_, ((Below.refl _ w).alloc (Nat.le_refl _) _).alloc (by simp) _, by simp⟩
    · exact (Below.heap_alloc _ _ _ (by simp)).trans (heap_alloc_new w _)
    · have := heap_alloc_new (w.alloc (.cells #[.int .i64 0, .int .i64 0, .int .i64 0] 106)) (.cells #[.int .i64 0, .int .i64 1, .int .i64 1] 106)
      rwa [World.size_alloc] at this
  case round =>
    obtain ⟨k, hk, rfl, b0, b1, hB, hsz⟩ := hrel
    have hb0 : w.heap.size < wr.heap.size := by omega
    have hb1 : w.heap.size + 1 < wr.heap.size := by omega
    by_cases hk4 : k < 4
    · have hix : ∀ W', (Instr.index 122 (.agg partsA) (.int .i64 k)).run Tryd.prog W' = .ok (.agg #[.int .i64 k, .int .i64 (psN k), .int .i64 (prN k)]) W' := parts_at k hk4
      have hki : (k : Int) < 4 := by omega
      obtain ⟨c, hc⟩ : ∃ c, bestK T sent r i j k = c := ⟨_, rfl⟩
      have hc4 : c < 4 := by rw [← hc]; rcases bestK_lt T sent r i j k with h | h <;> omega
      obtain ⟨x, hx⟩ : ∃ x, endI T sent r k i j = x := ⟨_, rfl⟩
      obtain ⟨y, hy⟩ : ∃ y, endI T sent r c i j = y := ⟨_, rfl⟩
      have HNX : Hid (bestK T sent r i j (k + 1) = if x < y then k else c) := Lib.hid (by simp only [bestK]; rw [hc, hx, hy])
      rw [hc] at b1
      have hbk : Below wr.heap.size wr (wr.alloc (.cells #[.int .i64 k, .int .i64 (psN k), .int .i64 (prN k)] 106)) := (Below.refl _ wr).alloc (Nat.le_refl _) _
      obtain ⟨W0, hW0⟩ : ∃ W0, wr.alloc (.cells #[.int .i64 k, .int .i64 (psN k), .int .i64 (prN k)] 106) = W0 := ⟨_, rfl⟩
      have n9 : W0.heap[wr.heap.size]? = some (.cells (partN k) 106 (0, 0)) := by rw [← hW0]; exact heap_alloc_new wr _
      rw [hW0] at hbk
      have n7 : W0.heap[w.heap.size + 1]? = some (.cells (partN c) 106 (0, 0)) := (hbk.block _ hb1).trans b1.out
      have n6 : W0.heap[w.heap.size]? = some (.cells #[.int .i64 0, .int .i64 0, .int .i64 0] 106 (0, 0)) := (hbk.block _ hb0).trans b0.out
      have hS0 : Sheet W0 Sb base r most sent T := (HS.out.keep hB).keep hbk
      have hz9 : wr.heap.size < W0.heap.size := (Array.getElem?_eq_some_iff.1 n9).1
      have hB0 : Below w.heap.size w W0 := hB.trans (hbk.mono hB.size)
      have CK : ∀ W', Below W0.heap.size W0 W' → Calls Tryd.prog 77 #[.pointer (some ⟨Sb, 0, none⟩), .agg #[.int .i64 k, .int .i64 (psN k), .int .i64 (prN k)], .int .i64 i, .int .i64 j] W' fun e w' => e = .returned (.int .i16 x) ∧ Below W0.heap.size W0 w' := fun W' h =>
        (ending_any W' Sb base r most sent T k i j hk4 (hS0.keep h) hi hj).mono fun e w' ⟨h1, h2⟩ => ⟨by rw [h1, hx], h.trans (h2.mono h.size)⟩
      have CC : ∀ W', Below W0.heap.size W0 W' → Calls Tryd.prog 77 #[.pointer (some ⟨Sb, 0, none⟩), .agg #[.int .i64 c, .int .i64 (psN c), .int .i64 (prN c)], .int .i64 i, .int .i64 j] W' fun e w' => e = .returned (.int .i16 y) ∧ Below W0.heap.size W0 w' := fun W' h =>
        (ending_any W' Sb base r most sent T c i j hc4 (hS0.keep h) hi hj).mono fun e w' ⟨h1, h2⟩ => ⟨by rw [h1, hy], h.trans (h2.mono h.size)⟩
      have k0 : ∀ W', Below W0.heap.size W0 W' → W'.cell? ⟨wr.heap.size, 0, none⟩ = some (.int .i64 k) ∧ W'.cell? ⟨wr.heap.size, 1, none⟩ = some (.int .i64 (psN k)) ∧ W'.cell? ⟨wr.heap.size, 2, none⟩ = some (.int .i64 (prN k)) := fun W' h => by
        have := (h.block _ hz9).trans n9
        exact ⟨by rw [cell_of_heap this]; rfl, by rw [cell_of_heap this]; rfl, by rw [cell_of_heap this]; rfl⟩
      have c0 : ∀ W', Below W0.heap.size W0 W' → W'.cell? ⟨w.heap.size + 1, 0, none⟩ = some (.int .i64 c) ∧ W'.cell? ⟨w.heap.size + 1, 1, none⟩ = some (.int .i64 (psN c)) ∧ W'.cell? ⟨w.heap.size + 1, 2, none⟩ = some (.int .i64 (prN c)) := fun W' h => by
        have := (h.block _ (by omega)).trans n7
        exact ⟨by rw [cell_of_heap this]; rfl, by rw [cell_of_heap this]; rfl, by rw [cell_of_heap this]; rfl⟩
      have f0 : ∀ W', Below W0.heap.size W0 W' → W'.frozen? ⟨w.heap.size + 1, 0, none⟩ = false ∧ W'.frozen? ⟨w.heap.size + 1, 1, none⟩ = false ∧ W'.frozen? ⟨w.heap.size + 1, 2, none⟩ = false := fun W' h => by
        have := (h.block _ (by omega)).trans n7
        exact ⟨free_of_heap this _, free_of_heap this _, free_of_heap this _⟩
      have HCK := Lib.hid CK; have HCC := Lib.hid CC; have HK0 := Lib.hid k0; have HC0 := Lib.hid c0; have HF0 := Lib.hid f0
      have HN6 := Lib.hid n6; have HN7 := Lib.hid n7
      clear CK CC k0 c0 f0 n6 n7 n9 b0 b1 hbk hS0 hc hx hy
      go_wp2_with fail
      clear hW0
      refine wp_region_turn 10 (fun _ w' => Below W0.heap.size W0 w') (by kernel_rfl) (by kernel_rfl) ((Below.refl _ _).drew) ?_
      simp only [List.take_succ_cons, List.take_zero, List.drop_succ_cons, List.drop_zero]
      (apply turnB_step (by rfl); (intro w' hw'; go_simp; first | exact ⟨hw', rfl⟩ | exact rfl))
      simp only [Act.put, List.setIfInBounds_toArray, List.set_cons_succ, List.set_cons_zero]
      (apply turnB_step (by rfl); (intro w' hw'; obtain ⟨q0, q1, q2⟩ := HK0.out w' hw'; go_simp; first | exact ⟨hw', rfl⟩ | exact rfl))
      simp only [Act.put, List.setIfInBounds_toArray, List.set_cons_succ, List.set_cons_zero]
      (apply turnB_step (by rfl); (intro w' hw'; go_simp; first | exact ⟨hw', rfl⟩ | exact rfl))
      simp only [Act.put, List.setIfInBounds_toArray, List.set_cons_succ, List.set_cons_zero]
      (apply turnB_step (by rfl); (intro w' hw'; go_simp; first | exact ⟨hw', rfl⟩ | exact rfl))
      simp only [Act.put, List.setIfInBounds_toArray, List.set_cons_succ, List.set_cons_zero]
      (apply turnB_step (by rfl); (intro w' hw'; go_simp; exact HCK.out w' hw'))
      simp only [Act.put, List.setIfInBounds_toArray, List.set_cons_succ, List.set_cons_zero]
      (apply turnB_step (by rfl); (intro w' hw'; go_simp; first | exact ⟨hw', rfl⟩ | exact rfl))
      simp only [Act.put, List.setIfInBounds_toArray, List.set_cons_succ, List.set_cons_zero]
      (apply turnB_step (by rfl); (intro w' hw'; obtain ⟨q0, q1, q2⟩ := HC0.out w' hw'; go_simp; first | exact ⟨hw', rfl⟩ | exact rfl))
      simp only [Act.put, List.setIfInBounds_toArray, List.set_cons_succ, List.set_cons_zero]
      (apply turnB_step (by rfl); (intro w' hw'; go_simp; first | exact ⟨hw', rfl⟩ | exact rfl))
      simp only [Act.put, List.setIfInBounds_toArray, List.set_cons_succ, List.set_cons_zero]
      (apply turnB_step (by rfl); (intro w' hw'; go_simp; first | exact ⟨hw', rfl⟩ | exact rfl))
      simp only [Act.put, List.setIfInBounds_toArray, List.set_cons_succ, List.set_cons_zero]
      (apply turnB_step (by rfl); (intro w' hw'; go_simp; exact HCC.out w' hw'))
      simp only [Act.put, List.setIfInBounds_toArray, List.set_cons_succ, List.set_cons_zero]
      intro listed w2 _ hw2
      obtain ⟨q0, q1, q2⟩ := HK0.out w2 hw2
      obtain ⟨r0, r1, r2⟩ := HC0.out w2 hw2
      obtain ⟨g0, g1, g2⟩ := HF0.out w2 hw2
      have HB2 := Lib.hid (hB0.trans (hw2.mono hB0.size))
      have HM6 := Lib.hid ((hw2.block _ (by omega)).trans HN6.out)
      have HM7 := Lib.hid ((hw2.block _ (by omega)).trans HN7.out)
      have hz2 : w.heap.size + 2 ≤ w2.heap.size := by have := hw2.size; omega
      clear hw2
      by_cases hxy : x < y
      · have hq : decide (x < y) = true := decide_eq_true hxy
        have HNX2 := Lib.hid (HNX.out.trans (if_pos hxy))
        clear hxy
        go_wp2_with fail
        go_roundw
        case rel =>
          refine ⟨k + 1, by omega, by go_num, Lib.hid ?_, Lib.hid ?_, ?_, by simpa using hz2⟩
          · exact (Below.heap_setCell _ _ _ _ (by simp)).trans ((Below.heap_setCell _ _ _ _ (by simp)).trans ((Below.heap_setCell _ _ _ _ (by simp)).trans HM6.out))
          · rw [HNX2.out]
            have := heap_setCell_same (heap_setCell_same (heap_setCell_same HM7.out 0 (.int .i64 k)) 1 (.int .i64 (psN k))) 2 (.int .i64 (prN k))
            exact this
          · exact ((HB2.out.setCell (p := ⟨w.heap.size + 1, 0, none⟩) (by simp) _).setCell (p := ⟨w.heap.size + 1, 1, none⟩) (by simp) _).setCell (p := ⟨w.heap.size + 1, 2, none⟩) (by simp) _
        case measure => simp [intOf]; omega
      · have hq : decide (x < y) = false := decide_eq_false hxy
        have HNX2 := Lib.hid (HNX.out.trans (if_neg hxy))
        clear hxy
        go_wp2_with fail
        go_roundw
        case rel => exact ⟨k + 1, by omega, by go_num, HM6, Lib.hid (by rw [HNX2.out]; exact HM7.out), HB2.out, hz2⟩
        case measure => simp [intOf]; omega
    · obtain rfl : k = 4 := by omega
      obtain ⟨c, hc⟩ : ∃ c, bestK T sent r i j 4 = c := ⟨_, rfl⟩
      have HCc := Lib.hid hc
      rw [hc] at b1
      have r0 : wr.cell? ⟨w.heap.size + 1, 0, none⟩ = some (.int .i64 c) := by rw [cell_of_heap b1.out]; rfl
      have r1 : wr.cell? ⟨w.heap.size + 1, 1, none⟩ = some (.int .i64 (psN c)) := by rw [cell_of_heap b1.out]; rfl
      have r2 : wr.cell? ⟨w.heap.size + 1, 2, none⟩ = some (.int .i64 (prN c)) := by rw [cell_of_heap b1.out]; rfl
      have d0 : wr.cell? ⟨w.heap.size, 0, none⟩ = some (.int .i64 0) := by rw [cell_of_heap b0.out]; rfl
      have d1 : wr.cell? ⟨w.heap.size, 1, none⟩ = some (.int .i64 0) := by rw [cell_of_heap b0.out]; rfl
      have d2 : wr.cell? ⟨w.heap.size, 2, none⟩ = some (.int .i64 0) := by rw [cell_of_heap b0.out]; rfl
      have g0 := free_of_heap b0.out 0
      have g1 := free_of_heap b0.out 1
      have g2 := free_of_heap b0.out 2
      clear hc
      go_wp2_with fail
      refine bodyPost_ret (v := .agg (partN c)) ?_ rfl ⟨by rw [HCc.out], ?_⟩
      · simp [results, Tryd.results63, go_sem, partN, d0, d1, d2]
      · exact ((hB.setCell (p := ⟨w.heap.size, 0, none⟩) (Nat.le_refl _) _).setCell (p := ⟨w.heap.size, 1, none⟩) (Nat.le_refl _) _).setCell (p := ⟨w.heap.size, 2, none⟩) (Nat.le_refl _) _
end Go.Proofs.YtgcaldceiogkaaaDoor

/-! slices.Reverse of faults. -/
namespace Go.Proofs.YtgcaldceiogkaaaDoor
open Go.RowKit Go.Shelf

/-- The cells of a row of faults. -/
def FCells (C : Array Value) (n : Nat) (M : Nat → Flt) : Prop := ∀ p : Nat, p < n → C[p * 2]? = some (.int .i64 (M p).1) ∧ C[p * 2 + 1]? = some (.int .i64 (M p).2)
theorem FCells.swap {C : Array Value} {n : Nat} {M M' : Nat → Flt} {i j : Nat} {a b c d : Int} (h : FCells C n M) (hij : i < j) (hj : j < n) (e1 : M' i = (c, d)) (e2 : M' j = (a, b)) (e3 : ∀ p, p ≠ i → p ≠ j → M' p = M p) :
    FCells ((((C.setIfInBounds (i * 2) (.int .i64 c)).setIfInBounds (i * 2 + 1) (.int .i64 d)).setIfInBounds (j * 2) (.int .i64 a)).setIfInBounds (j * 2 + 1) (.int .i64 b)) n M' := by
  intro p hp
  have hs : ∀ q : Nat, q < n → q * 2 + 1 < C.size := fun q hq => (Array.getElem?_eq_some_iff.1 (h q hq).2).1
  have s1 := hs i (by omega)
  have s2 := hs j hj
  by_cases c1 : p = i
  · subst c1
    rw [e1]
    constructor
    · rw [Array.getElem?_setIfInBounds_ne (by omega), Array.getElem?_setIfInBounds_ne (by omega), Array.getElem?_setIfInBounds_ne (by omega), Array.getElem?_setIfInBounds_self_of_lt (by omega)]
    · rw [Array.getElem?_setIfInBounds_ne (by omega), Array.getElem?_setIfInBounds_ne (by omega), Array.getElem?_setIfInBounds_self_of_lt (by simp; omega)]
  · by_cases c2 : p = j
    · subst c2
      rw [e2]
      constructor
      · rw [Array.getElem?_setIfInBounds_ne (by omega), Array.getElem?_setIfInBounds_self_of_lt (by simp; omega)]
      · rw [Array.getElem?_setIfInBounds_self_of_lt (by simp; omega)]
    · rw [e3 p c1 c2]
      constructor
      · rw [Array.getElem?_setIfInBounds_ne (by omega), Array.getElem?_setIfInBounds_ne (by omega), Array.getElem?_setIfInBounds_ne (by omega), Array.getElem?_setIfInBounds_ne (by omega)]; exact (h p hp).1
      · rw [Array.getElem?_setIfInBounds_ne (by omega), Array.getElem?_setIfInBounds_ne (by omega), Array.getElem?_setIfInBounds_ne (by omega), Array.getElem?_setIfInBounds_ne (by omega)]; exact (h p hp).2
def revM (l : List Flt) (k p : Nat) : Flt := if p < k ∨ l.length ≤ p + k then l.getD (l.length - 1 - p) (0, 0) else l.getD p (0, 0)
theorem FCells.congr {C : Array Value} {n : Nat} {M M' : Nat → Flt} (h : FCells C n M) (e : ∀ p, p < n → M p = M' p) : FCells C n M' := fun p hp => by rw [← e p hp]; exact h p hp

theorem reverse_none (a : Option Addr) (cap : Nat) (w : World) : Calls Tryd.prog 64 #[.slice a 0 cap] w fun e w' => e = .returned (.tuple #[]) ∧ w = w' := by
  go_enter Tryd.func64, Tryd.ntmps64
  go_wp2_with fail
  go_loop [2, 3] (fun i j => i = .int .i64 0 ∧ j = .int .i64 (-1)) (fun _ _ => 0)
  case atStart => exact ⟨rfl, rfl⟩
  case round =>
    obtain ⟨rfl, rfl⟩ := hrel
    go_wp2_with fail
    go_end0
    exact ⟨rfl, rfl⟩

def RevPost (w : World) (g : Nat) (l : List Flt) (e : Ending) (w' : World) : Prop :=
  e = .returned (.tuple #[]) ∧ (∃ C', w'.heap[g]? = some (.cells C' 34 (0, 0)) ∧ FCells C' l.length (fun p => l.getD (l.length - 1 - p) (0, 0))) ∧ (∀ n, n ≤ g → Below n w w')

set_option maxRecDepth 100000 in
set_option maxHeartbeats 2000000 in
theorem reverse_any (g cap : Nat) (l : List Flt) (w : World) (C : Array Value) (hb : w.heap[g]? = some (.cells C 34 (0, 0))) (hC : FCells C l.length (fun p => l.getD p (0, 0))) (hl : l.length ≤ 1000000) :
    Calls Tryd.prog 64 #[.slice (some ⟨g, 0, none⟩) l.length cap] w (RevPost w g l) := by
  go_enter Tryd.func64, Tryd.ntmps64
  go_wp2_with fail
  go_loopw [2, 3] (fun i j wr => ∃ (k : Nat) (J : Int), i = .int .i64 k ∧ j = .int .i64 J ∧ J = (l.length : Int) - 1 - k ∧ (k : Int) ≤ J + 2 ∧ (∃ C', Hid (wr.heap[g]? = some (.cells C' 34 (0, 0)) ∧ FCells C' l.length (revM l k))) ∧ Hid (∀ n, n ≤ g → Below n w wr)) (fun i j _ => (intOf j - intOf i + 1).toNat)
  case atStart =>
    refine ⟨0, _, rfl, rfl, by omega, by omega, ⟨C, Lib.hid ⟨hb, hC.congr (fun p hp => ?_)⟩⟩, Lib.hid (fun n _ => Below.refl _ _)⟩
    unfold revM; rw [if_neg (by omega)]
  case round =>
    obtain ⟨k, J, rfl, rfl, hJ, hkJ, ⟨D, hD⟩, hB⟩ := hrel
    by_cases hlt : (k : Int) < J
    · obtain ⟨j, rfl⟩ := Int.eq_ofNat_of_zero_le (show 0 ≤ J by omega)
      have hjl : j < l.length := by omega
      have hkj : k < j := by omega
      have hkl : (k : Int) < l.length := by omega
      have hjli : (j : Int) < l.length := by omega
      obtain ⟨a1, a2⟩ := hD.out.2 k (by omega)
      obtain ⟨b1, b2⟩ := hD.out.2 j hjl
      obtain ⟨a, ea⟩ : ∃ a, (revM l k k).1 = a := ⟨_, rfl⟩
      obtain ⟨b, eb⟩ : ∃ b, (revM l k k).2 = b := ⟨_, rfl⟩
      obtain ⟨c, ec⟩ : ∃ c, (revM l k j).1 = c := ⟨_, rfl⟩
      obtain ⟨d, ed⟩ : ∃ d, (revM l k j).2 = d := ⟨_, rfl⟩
      rw [ea] at a1; rw [eb] at a2; rw [ec] at b1; rw [ed] at b2
      have q0 : wr.cell? ⟨g, k * 2, none⟩ = some (.int .i64 a) := by rw [cell_of_heap hD.out.1]; exact a1
      have q1 : wr.cell? ⟨g, k * 2 + 1, none⟩ = some (.int .i64 b) := by rw [cell_of_heap hD.out.1]; exact a2
      have r0 : wr.cell? ⟨g, j * 2, none⟩ = some (.int .i64 c) := by rw [cell_of_heap hD.out.1]; exact b1
      have r1 : wr.cell? ⟨g, j * 2 + 1, none⟩ = some (.int .i64 d) := by rw [cell_of_heap hD.out.1]; exact b2
      have f0 := free_of_heap hD.out.1 (k * 2)
      have f1 := free_of_heap hD.out.1 (k * 2 + 1)
      have g0 := free_of_heap hD.out.1 (j * 2)
      have g1 := free_of_heap hD.out.1 (j * 2 + 1)
      have n1 : ¬ k * 2 = j * 2 := by omega
      have n2 : ¬ j * 2 = k * 2 := by omega
      have n3 : ¬ k * 2 + 1 = j * 2 := by omega
      have n4 : ¬ j * 2 = k * 2 + 1 := by omega
      have n5 : ¬ k * 2 = j * 2 + 1 := by omega
      have n6 : ¬ j * 2 + 1 = k * 2 := by omega
      have n7 : ¬ k = j := by omega
      have n8 : ¬ j = k := by omega
      have HJ := Lib.hid hJ
      have hMi : revM l (k + 1) k = (c, d) := by
        have e : revM l (k + 1) k = revM l k j := by
          unfold revM; rw [if_pos (by omega), if_neg (by omega), show l.length - 1 - k = j by omega]
        rw [e]; exact Prod.ext ec ed
      have hMj : revM l (k + 1) j = (a, b) := by
        have e : revM l (k + 1) j = revM l k k := by
          unfold revM; rw [if_pos (by omega), if_neg (by omega), show l.length - 1 - j = k by omega]
        rw [e]; exact Prod.ext ea eb
      have hMo : ∀ p, p ≠ k → p ≠ j → revM l (k + 1) p = revM l k p := fun p h1 h2 => by
        unfold revM
        by_cases c : p < k ∨ l.length ≤ p + k
        · rw [if_pos c, if_pos (by omega)]
        · rw [if_neg c, if_neg (by omega)]
      have HSW := Lib.hid (hD.out.2.swap hkj hjl hMi hMj hMo)
      clear a1 a2 b1 b2 ea eb ec ed hJ hMi hMj hMo
      go_wp2_with fail
      go_region
      all_goals
        go_wp2_with fail
        go_roundw
        case rel =>
          refine ⟨k + 1, (j : Int) - 1, by go_num, rfl, by have := HJ.out; omega, by omega, ⟨_, Lib.hid ⟨heap_setCell_same (heap_setCell_same (heap_setCell_same (heap_setCell_same hD.out.1 (k * 2) _) (k * 2 + 1) _) (j * 2) _) (j * 2 + 1) _, HSW.out⟩⟩, Lib.hid (fun n hn => ?_)⟩
          have := hB.out n hn
          exact ((((this.setCell (p := ⟨g, k * 2, none⟩) hn _).setCell (p := ⟨g, k * 2 + 1, none⟩) hn _).setCell (p := ⟨g, j * 2, none⟩) hn _).setCell (p := ⟨g, j * 2 + 1, none⟩) hn _).drew
        case measure => simp [intOf]; omega
    · have HF := Lib.hid (hD.out.2.congr (M' := fun p => l.getD (l.length - 1 - p) (0, 0)) (fun p hp => by
        unfold revM
        by_cases c : p < k ∨ l.length ≤ p + k
        · rw [if_pos c]
        · rw [if_neg c, show l.length - 1 - p = p by omega]))
      go_wp2_with fail
      go_end0
      exact ⟨rfl, ⟨D, hD.out.1, HF.out⟩, hB.out⟩
end Go.Proofs.YtgcaldceiogkaaaDoor
