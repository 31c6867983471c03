/- append to an own row as a step of a region that draws its order. -/
import Derived.Test.YtpaihnjgpookjaaHA0
import Derived.Deep.RegionHeldLaw
set_option linter.unusedVariables false
set_option linter.unusedSimpArgs false
namespace Go.Proofs.Ytpaihnjgpookjaa
open Go Go.RowKit

/-- append to an own row, as one step of a region that draws. -/
theorem step_append_own {P : Program} {ops : Array Oper} {o : Oper} {a : Act} {w : World} {K : Act → World → Prop} {Q : Exit → Act → World → Prop} {E : Prop}
    (hg : o.guard = none) (s x : Operand) (t : TypeId) (hop : o.op = Op.call { callee := Callee.builtin Builtin.append, args := #[s, x], argTypes := #[t, t] })
    (e : TypeId) (i : TypeInfo) (z : Value) (size bytes : Nat) (h1 : P.underlying t = some (.slice e)) (h2 : P.info? e = some i) (h3 : i.zero = some z) (h4 : i.size = size) (h5 : i.bytes = bytes) (h6 : z.cells.size = size) (h7 : 0 < size)
    (base : Nat) (v : Value) (n : Nat) (olds : List Value) (hs : a.eval s = v) (hown : w.ownsRow base e size v n olds)
    (ad : Addr) (m c : Nat) (news : List Value) (hx : a.eval x = .slice (some ad) m c) (hn : news.length = m * size) (hc : ∀ j u, news[j]? = some u → w.cell? (ad.add j) = some u) (h1c : ∀ u ∈ news, u.oneCell' = true)
    (b1 : n + m ≤ maxLen) (b2 : (n + m) * bytes ≤ 140737488355328) (hb : base ≤ w.heap.size)
    (hK : ∀ v' w', w'.ownsRow base e size v' (n + m) (olds ++ news) → w.grownBy w' v.ownBlock → K (a.put o.dst v') w') :
    if Region.wanted o (yielded ops a.tmps) = true then Oper.wp P o a w K Q else E := by
  have hw : Region.wanted o (yielded ops a.tmps) = true := by simp [Region.wanted, hg]
  rw [if_pos hw]
  obtain ⟨v', w', hrun, r1, r2, _⟩ := run_append_own (P := P) w base t o.type e i z size bytes h1 h2 h3 h4 h5 h6 h7 v n olds hown ad m c news hn hc h1c b1 b2 hb
  unfold Oper.wp
  simp [execOp, hop, resolve, invoke, builtin, hs, hx, hrun, Result.andThen]
  exact hK v' w' r1 r2
theorem row_form {w : World} {base : Nat} {e : TypeId} {size : Nat} {v : Value} {n : Nat} {xs : List Value} (h : w.ownsRow base e size v n xs) : ∃ a c, v = .slice a n c := by
  rcases h.2 with ⟨h1, h2⟩ | ⟨g, cap, cur, h1, _⟩
  · exact ⟨none, 0, by rw [h1, h2]⟩
  · exact ⟨_, _, h1⟩
theorem made_a (w : World) (e : TypeId) (sz : Nat) : ((w.alloc (.cells #[] e)).drew).ownsRow w.heap.size e sz (.slice (some ⟨w.heap.size, 0, none⟩) 0 0) 0 [] :=
  World.ownsRow_made (base := w.heap.size) (e := e) (size := sz) w.drew #[] 0 (Nat.le_refl _) (by unfold maxLen; omega) (by simp)
theorem made_b (w : World) (N : Obj) (e : TypeId) (sz : Nat) : (((w.alloc (.cells #[] e)).alloc N).drew).ownsRow w.heap.size e sz (.slice (some ⟨w.heap.size, 0, none⟩) 0 0) 0 [] :=
  (World.ownsRow_made (base := w.heap.size) (e := e) (size := sz) w.drew #[] 0 (Nat.le_refl _) (by unfold maxLen; omega) (by simp)).alloc N
theorem made_c (w : World) (N : Obj) (e : TypeId) (sz : Nat) : (((w.alloc N).alloc (.cells #[] e)).drew).ownsRow w.heap.size e sz (.slice (some ⟨w.heap.size + 1, 0, none⟩) 0 0) 0 [] := by
  have h := World.ownsRow_made (base := w.heap.size) (e := e) (size := sz) (w.drew.alloc N) #[] 0 (by simp) (by unfold maxLen; omega) (by simp)
  have e' : (w.drew.alloc N).heap.size = w.heap.size + 1 := by simp
  rw [e'] at h
  exact h
theorem nf_b {w w5 : World} {B N : Obj} {row : Option Nat} (hg : (((w.alloc B).alloc N).drew).grownBy w5 row) (hr : row = some w.heap.size) : w5.heap[w.heap.size + 1]? = some N := by
  rw [hg.block (w.heap.size + 1) (by simp) (by rw [hr]; simp)]
  have h := heap_alloc_new (w.alloc B) N
  rw [show (w.alloc B).heap.size = w.heap.size + 1 by simp] at h
  exact h
theorem nf_c {w w5 : World} {B N : Obj} {row : Option Nat} (hg : (((w.alloc N).alloc B).drew).grownBy w5 row) (hr : row = some (w.heap.size + 1)) : w5.heap[w.heap.size]? = some N := by
  rw [hg.block w.heap.size (by simp; omega) (by rw [hr]; simp)]
  show ((w.alloc N).alloc B).heap[w.heap.size]? = _
  rw [gNe _ _ _ (by simp)]
  exact heap_alloc_new w N
theorem own_neJ {w : World} {b c : Nat} {e t : TypeId} {size : Nat} {v : Value} {n : Nat} {xs : List Value} {C : Array Value} {f : Nat × Nat} (h : w.ownsRow c e size v n xs) (hc : w.heap[b]? = some (.cells C t f)) (ht : t ≠ e) : some b ≠ v.ownBlock := by
  rcases h with ⟨h1, ⟨rfl, _⟩ | ⟨g, cap, cur, rfl, k2, k3, _⟩⟩
  · simp [Value.ownBlock]
  · intro q
    obtain rfl : b = g := by simpa [Value.ownBlock] using q
    rw [k3] at hc; cases hc; exact ht rfl
theorem four_cellsJ (w : World) (A B C D : Array Value) (t u v s : TypeId) {W : World} (hb : Below ((((w.alloc (.cells A t)).alloc (.cells B u)).alloc (.cells C v)).alloc (.cells D s)).heap.size ((((w.alloc (.cells A t)).alloc (.cells B u)).alloc (.cells C v)).alloc (.cells D s)) W) :
    W.heap[w.heap.size]? = some (.cells A t (0, 0)) ∧ W.heap[w.heap.size + 1]? = some (.cells B u (0, 0)) ∧ W.heap[w.heap.size + 2]? = some (.cells C v (0, 0)) ∧ W.heap[w.heap.size + 3]? = some (.cells D s (0, 0)) ∧ w.heap.size + 3 < W.heap.size ∧ Below w.heap.size w W := by
  have s1 : (w.alloc (.cells A t)).heap.size = w.heap.size + 1 := by simp
  have s2 : ((w.alloc (.cells A t)).alloc (.cells B u)).heap.size = w.heap.size + 2 := by simp
  have s3 : (((w.alloc (.cells A t)).alloc (.cells B u)).alloc (.cells C v)).heap.size = w.heap.size + 3 := by simp
  have s4 : ((((w.alloc (.cells A t)).alloc (.cells B u)).alloc (.cells C v)).alloc (.cells D s)).heap.size = w.heap.size + 4 := by simp
  refine ⟨?_, ?_, ?_, ?_, ?_, ?_⟩
  · rw [hb.block _ (by omega), gNe _ _ _ (by omega), gNe _ _ _ (by omega), gNe _ _ _ (by omega)]; exact heap_alloc_new _ _
  · rw [hb.block _ (by omega), gNe _ _ _ (by omega), gNe _ _ _ (by omega), ← s1]; exact heap_alloc_new _ _
  · rw [hb.block _ (by omega), gNe _ _ _ (by omega), ← s2]; exact heap_alloc_new _ _
  · rw [hb.block _ (by omega), ← s3]; exact heap_alloc_new _ _
  · have := hb.size; omega
  · exact (((((Below.refl _ w).alloc (Nat.le_refl _) _).alloc (by omega) _).alloc (by omega) _).alloc (by omega) _).trans (hb.mono (by omega))
theorem row_set {w : World} {base : Nat} {e : TypeId} {size : Nat} {v : Value} {n : Nat} {xs : List Value} (h : w.ownsRow base e size v n xs) {q : Nat} {C : Array Value} {t : TypeId} {fr : Nat × Nat} (hq : w.heap[q]? = some (Obj.cells C t fr)) (hne : t ≠ e) (k : Nat) (u : Value) : (w.setCell ⟨q, k, none⟩ u).ownsRow base e size v n xs :=
  have hb : Below q w (w.setCell ⟨q, k, none⟩ u) := by
    refine Below.setCell (Below.refl q w) ?_ u
    exact Nat.le_refl q
  World.ownsRow.kept h (row := some q) ⟨hb.os, hb.tape, hb.output, by simp, fun b hb hn => heap_other _ _ _ _ _ (fun e => hn (by rw [e]))⟩ (.inr (fun e => own_neJ h hq hne e.symm))
theorem one_ints {g : List Int} : ∀ u ∈ g.map (Value.int .i64 ·), u.oneCell' = true := fun u hu => by
  obtain ⟨x, _, rfl⟩ := List.mem_map.1 hu
  rfl
/-- What stands behind a statement, joined from all its ways. -/
theorem seq_join {P : Program} {Q : Exit → Act → World → Prop} {a : Act} {w : World} {x y : Code} (Mid : Act → World → Prop) (h1 : x.wp P (Exit.then Mid Q) a w) (h2 : ∀ a' w', Mid a' w' → y.wp P Q a' w') : (Code.seq x y).wp P Q a w :=
  wp_seq (wp_mono h1 (fun e a w h => by cases e <;> first | exact h2 _ _ h | exact h))
/-- The results of a function that lie in two boxes. -/
theorem res_cells {P : Program} {fn : Func} {p q : Tmp} {tyA tyB : TypeId} (h : fn.results = #[.cell p tyA, .cell q tyB]) (tmps : Array Value) (w : World) (A B : Nat) (tA tB : TypeId) (cA cB : Array Value) (frA frB : Nat × Nat) (dA dB : TypeDesc)
    (hp : tmps.getD p undef = .pointer (some ⟨A, 0, none⟩)) (hgA : w.heap[A]? = some (.cells cA tA frA)) (hq : tmps.getD q undef = .pointer (some ⟨B, 0, none⟩)) (hgB : w.heap[B]? = some (.cells cB tB frB))
    (huA : P.underlying tyA = some dA) (hdA : (match dA with | .struct _ | .array _ _ => true | _ => false) = true) (hiA : (P.info? tyA).map (·.size) = some cA.size)
    (huB : P.underlying tyB = some dB) (hdB : (match dB with | .struct _ | .array _ _ => true | _ => false) = true) (hiB : (P.info? tyB).map (·.size) = some cB.size) :
    (results fn tmps).run P w = .ok (.tuple #[.agg cA, .agg cB]) w := by
  have hp' : tmps[p]?.getD undef = .pointer (some ⟨A, 0, none⟩) := by simpa using hp
  have hq' : tmps[q]?.getD undef = .pointer (some ⟨B, 0, none⟩) := by simpa using hq
  simp [results, h, asAddr, hp', hq', run_loadVar_row w A tA tyA cA frA dA hgA huA hdA hiA, run_loadVar_row w B tB tyB cB frB dB hgB huB hdB hiB, Sem.run_bind, Result.andThen]
end Go.Proofs.Ytpaihnjgpookjaa
