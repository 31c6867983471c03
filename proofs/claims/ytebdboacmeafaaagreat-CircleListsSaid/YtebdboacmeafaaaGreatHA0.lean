/- What the texts on ridge share: rows of numbers, blocks that lie as they lay, and ranges over iterators that range over iterators themselves. -/
import Derived.Test.YtebdboacmeafaaaGreatRows
import Derived.Test.YtebdboacmeafaaaGreatT0
import Derived.WalkKit
import Derived.WalkLawsBesides
import Derived.Lib.Hide
import Derived.Lib.MinMax
import Derived.Outline
import Derived.Deep.QuietTactic
import Derived.BigQuiet
import Derived.Laws.Tables
import Derived.Laws.EntriesVeiled
import Derived.RangeFuncNested
import Derived.RangeFuncBound
import Derived.RangeFuncCalls
import Derived.RangeFuncLeaves
import Derived.Lib.SlicesCompact
import Derived.Lib.RowBridge
import Derived.Shelf.Abstract
import Derived.Shelf.RegionOpen
import Derived.OwnWalkIn
import Derived.TacticsInMore
import Derived.LoopNIn
import Derived.LoopIn
import Derived.WalkMore
import Derived.Scope
import Derived.OwnWalk
set_option linter.unusedVariables false
set_option linter.unusedSimpArgs false
namespace Go.Proofs.YtebdboacmeafaaaGreat
open Go Go.RowKit

theorem ret_int' {k : IntKind} {a b : Int} (h : a = b) : Ending.returned (.int k a) = .returned (.int k b) := by rw [h]
theorem ret_val' {a b : Value} (h : a = b) : Ending.returned a = .returned b := by rw [h]
theorem ret_bool' {a b : Bool} (h : a = b) : Ending.returned (.bool a) = .returned (.bool b) := by rw [h]
theorem turnC_step {P : Program} {ops : Array Oper} {md : Region.Mode} {n : Nat} {W0 : World} {Q : Act → Prop} {o : Oper} {rest : List Oper} {k : Nat} {a : Act} {v : Value} (hw : Region.wanted o (yielded ops a.tmps) = true)
    (h1 : ∀ w', Below W0.heap.size W0 w' → TurnUpon P (fun w'' => Below W0.heap.size W0 w'') v ((execOp a.eval o).run P w')) (h2 : wpTurn P ops md n (fun _ w' => Below W0.heap.size W0 w') Q rest (k + 1) (a.put o.dst v)) :
    wpTurn P ops md n (fun _ w' => Below W0.heap.size W0 w') Q (o :: rest) k a := ⟨v, .inl ⟨hw, fun _ w _ _ hC => h1 w hC⟩, h2⟩
theorem turnC_skip {P : Program} {ops : Array Oper} {md : Region.Mode} {n : Nat} {W0 : World} {Q : Act → Prop} {o : Oper} {rest : List Oper} {k : Nat} {a : Act} (hw : Region.wanted o (yielded ops a.tmps) = false)
    (h2 : wpTurn P ops md n (fun _ w' => Below W0.heap.size W0 w') Q rest (k + 1) (a.put o.dst undef)) :
    wpTurn P ops md n (fun _ w' => Below W0.heap.size W0 w') Q (o :: rest) k a := ⟨undef, .inr ⟨hw, rfl, fun _ _ _ _ hC => hC⟩, h2⟩
def INRow (w : World) (v : Value) (l : List Int) : Prop :=
  (∃ a cap, v = .slice a 0 cap ∧ l = []) ∨
  ∃ b off cap, v = .slice (some ⟨b, off, none⟩) l.length cap ∧ b < w.heap.size ∧ ∀ i, i < l.length → w.cell? ⟨b, off + i, none⟩ = some (.int .i64 (l.getD i 0))
theorem INRow.form {w : World} {v : Value} {l : List Int} (h : INRow w v l) : ∃ a cap, v = .slice a l.length cap ∧ ∀ k, k < l.length → ∃ b off, a = some ⟨b, off, none⟩ ∧ b < w.heap.size ∧ w.cell? ⟨b, off + k, none⟩ = some (.int .i64 (l.getD k 0)) := by
  rcases h with ⟨a, cap, rfl, rfl⟩ | ⟨b, off, cap, rfl, hb, hc⟩
  · exact ⟨a, cap, rfl, fun k hk => by simp at hk⟩
  · exact ⟨_, cap, rfl, fun k hk => ⟨b, off, rfl, hb, hc k hk⟩⟩
theorem INRow.keep {w w' : World} {v : Value} {l : List Int} (h : INRow w v l) (hb : Below w.heap.size w w') : INRow w' v l := by
  rcases h with h | ⟨b, off, cap, rfl, h1, hc⟩
  · exact .inl h
  · exact .inr ⟨b, off, cap, rfl, Nat.lt_of_lt_of_le h1 hb.size, fun i hi => (hb.cell (p := ⟨b, _, none⟩) h1).trans (hc i hi)⟩
theorem int_mem {l : List Int} {k : Nat} (hk : k < l.length) : l.getD k 0 ∈ l := by
  rw [List.getD_eq_getElem?_getD, List.getElem?_eq_getElem hk]; exact List.getElem_mem _
theorem all_drop {α : Type} (p : α → Bool) {l : List α} {k : Nat} (hk : k < l.length) : (l.drop k).all p = (p l[k] && (l.drop (k + 1)).all p) := by
  rw [List.drop_eq_getElem_cons hk]; rfl
theorem gAt (w : World) (o : Obj) (i : Nat) (h : i = w.heap.size) : (w.alloc o).heap[i]? = some o := by subst h; exact heap_alloc_new w o
theorem gNe (w : World) (o : Obj) (i : Nat) (h : i ≠ w.heap.size) : (w.alloc o).heap[i]? = w.heap[i]? := by
  show (w.heap.push _)[i]? = _
  rw [Array.getElem?_push, if_neg h]
theorem gDrew (w : World) (i : Nat) : w.drew.heap[i]? = w.heap[i]? := rfl
theorem sDrew (w : World) : w.drew.heap.size = w.heap.size := rfl
theorem heap_same {w : World} {g : Nat} {c : Array Value} {e : TypeId} {f : Nat × Nat} (h : w.heap[g]? = some (.cells c e f)) (o : Nat) (v : Value) : (w.setCell ⟨g, o, none⟩ v).heap[g]? = some (.cells (c.setIfInBounds o v) e f) := by
  show (w.heap.modify g _)[g]? = _
  rw [Array.getElem?_modify, if_pos rfl, h]; rfl
theorem heap_other (w : World) (g o : Nat) (v : Value) (b : Nat) (h : b ≠ g) : (w.setCell ⟨g, o, none⟩ v).heap[b]? = w.heap[b]? := Below.heap_setCell _ _ _ b h
theorem size_set (w : World) (g o : Nat) (v : Value) : (w.setCell ⟨g, o, none⟩ v).heap.size = w.heap.size := by simp
theorem cellH {w : World} {g : Nat} {c : Array Value} {e : TypeId} {f : Nat × Nat} (h : w.heap[g]? = some (.cells c e f)) (o : Nat) : w.cell? ⟨g, o, none⟩ = c[o]? := by simp [World.cell?, h]
theorem freeH {w : World} {g : Nat} {c : Array Value} {e : TypeId} (h : w.heap[g]? = some (.cells c e (0, 0))) (o : Nat) : w.frozen? ⟨g, o, none⟩ = false := by simp [World.frozen?, h]
theorem addr_add (b off j : Nat) : (⟨b, off, none⟩ : Addr).add j = ⟨b, off + j, none⟩ := by unfold Addr.add; split <;> simp_all
theorem cell_two' (w : World) (x y : Value) (t : TypeId) (j : Nat) (u : Value) (h : [x, y][j]? = some u) : (w.alloc (.cells #[x, y] t)).cell? ((⟨w.heap.size, 0, none⟩ : Addr).add j) = some u := by
  have e : (⟨w.heap.size, 0, none⟩ : Addr).add j = ⟨w.heap.size, j, none⟩ := by unfold Addr.add; split <;> simp_all
  rw [e, World.cell?_alloc_new]
  simpa using h
theorem cell_one' (w : World) (x : Value) (t : TypeId) (j : Nat) (u : Value) (h : [x][j]? = some u) : (w.alloc (.cells #[x] t)).cell? ((⟨w.heap.size, 0, none⟩ : Addr).add j) = some u := by
  rw [addr_add, Nat.zero_add, World.cell?_alloc_new]
  simpa using h
theorem row_below {w w' : World} {base : Nat} {e : TypeId} {size : Nat} {v : Value} {n : Nat} {xs : List Value} (h : w.ownsRow base e size v n xs) (hb : Below w.heap.size w w') : w'.ownsRow base e size v n xs :=
  World.ownsRow.kept h (row := none) ⟨hb.os, hb.tape, hb.output, hb.size, fun k hk _ => hb.block k hk⟩ (by
    cases hv : v.ownBlock with
    | none => exact .inl rfl
    | some x => exact .inr (by simp))
def KC5 (A B : World) : Prop := A.heap.size ≤ B.heap.size ∧ ∀ (b : Nat) (C : Array Value) (t : TypeId) (fr : Nat × Nat), A.heap[b]? = some (Obj.cells C t fr) → B.heap[b]? = some (Obj.cells C t fr)
theorem KC5.refl (A : World) : KC5 A A := ⟨Nat.le_refl _, fun _ _ _ _ h => h⟩
theorem KC5.trans {A B C : World} (h : KC5 A B) (k : KC5 B C) : KC5 A C := ⟨Nat.le_trans h.1 k.1, fun b C' t fr hb => k.2 b C' t fr (h.2 b C' t fr hb)⟩
theorem KC5.cell {A B : World} (h : KC5 A B) {p : Addr} {v : Value} (hp : A.cell? p = some v) : B.cell? p = some v := by
  unfold World.cell? at hp ⊢
  split at hp
  · rename_i C t fr hb
    rw [h.2 _ _ _ _ hb]; exact hp
  · cases hp
theorem KC5.of_below {A B : World} (h : Below A.heap.size A B) : KC5 A B := ⟨h.size, fun b C t fr hb => (h.block b (Array.getElem?_eq_some_iff.1 hb).1).trans hb⟩
theorem leaves_marks5 {F : Fence} {n : Nat} {P : Program} {fn : Func} {tmps : Array Value} {R : Ending → World → Prop} (b0 : Nat) : ∀ (marks : List Nat) (W : World), marks.Nodup → (∀ D ∈ marks, b0 ≤ D ∧ W.heap[D]? = some (.deferred (some []))) →
    (∀ W', KC5 W W' → Below b0 W W' → LeavesIn F n P fn tmps R [] .returning W') → LeavesInM F n P fn tmps R (marks.map fun D => { target := .collected D, args := #[] }) .returning W
  | [], W, _, _, h => h W (KC5.refl _) (Below.refl _ _)
  | D :: marks, W, hnd, hm, h => by
    obtain ⟨h1, h2⟩ := hm D (by simp)
    refine ⟨by simp, .inl ⟨D, W.putObj D (.deferred none), rfl, run_takeDeferred h2, ?_⟩⟩
    refine leaves_marks5 b0 marks _ (List.nodup_cons.1 hnd).2 (fun D' hD' => ?_) (fun W' hk hb => h W' ?_ ?_)
    · have hne : D' ≠ D := fun e => (List.nodup_cons.1 hnd).1 (e ▸ hD')
      obtain ⟨g1, g2⟩ := hm D' (by simp [hD'])
      exact ⟨g1, (World.putObj_heap_other hne).trans g2⟩
    · refine KC5.trans ⟨by simp, fun b C t fr hb' => ?_⟩ hk
      refine (World.putObj_heap_other ?_).trans hb'
      rintro rfl
      rw [h2] at hb'; cases hb'
    · exact ((Below.refl b0 W).grown (grownBy_putObj' W D _) (by have := (Array.getElem?_eq_some_iff.1 h2).1; omega) (fun k e => by cases e; exact h1)).trans hb
theorem below_keeps {B : Nat} {A W : World} (h : Below A.heap.size A W) : KeepsFrom B A W := KeepsFrom.of_grownBy (row := none) ⟨h.os, h.tape, h.output, h.size, fun k hk _ => h.block k hk⟩ (fun j e => by cases e)
theorem two_cells (w : World) (A B : Array Value) (t u : TypeId) {W : World} (hb : Below ((w.alloc (.cells A t)).alloc (.cells B u)).heap.size ((w.alloc (.cells A t)).alloc (.cells B u)) W) :
    W.heap[w.heap.size]? = some (.cells A t (0, 0)) ∧ W.heap[w.heap.size + 1]? = some (.cells B u (0, 0)) ∧ w.heap.size + 1 < W.heap.size ∧ Below w.heap.size w W := by
  have s1 : (w.alloc (.cells A t)).heap.size = w.heap.size + 1 := by simp
  have s2 : ((w.alloc (.cells A t)).alloc (.cells B u)).heap.size = w.heap.size + 2 := by simp
  refine ⟨?_, ?_, ?_, ?_⟩
  · rw [hb.block _ (by omega), gNe _ _ _ (by omega)]; exact heap_alloc_new _ _
  · rw [hb.block _ (by omega), ← s1]; exact heap_alloc_new _ _
  · have := hb.size; omega
  · exact (((Below.refl _ w).alloc (Nat.le_refl _) _).alloc (by omega) _).trans (hb.mono (by omega))
theorem three_cells (w : World) (A B C : Array Value) (t u v : TypeId) {W : World} (hb : Below (((w.alloc (.cells A t)).alloc (.cells B u)).alloc (.cells C v)).heap.size (((w.alloc (.cells A t)).alloc (.cells B u)).alloc (.cells C v)) W) :
    W.heap[w.heap.size]? = some (.cells A t (0, 0)) ∧ W.heap[w.heap.size + 1]? = some (.cells B u (0, 0)) ∧ W.heap[w.heap.size + 2]? = some (.cells C v (0, 0)) ∧ w.heap.size + 2 < W.heap.size ∧ Below w.heap.size w W := by
  have s1 : (w.alloc (.cells A t)).heap.size = w.heap.size + 1 := by simp
  have s2 : ((w.alloc (.cells A t)).alloc (.cells B u)).heap.size = w.heap.size + 2 := by simp
  have s3 : (((w.alloc (.cells A t)).alloc (.cells B u)).alloc (.cells C v)).heap.size = w.heap.size + 3 := by simp
  refine ⟨?_, ?_, ?_, ?_, ?_⟩
  · rw [hb.block _ (by omega), gNe _ _ _ (by omega), gNe _ _ _ (by omega)]; exact heap_alloc_new _ _
  · rw [hb.block _ (by omega), gNe _ _ _ (by omega), ← s1]; exact heap_alloc_new _ _
  · rw [hb.block _ (by omega), ← s2]; exact heap_alloc_new _ _
  · have := hb.size; omega
  · exact ((((Below.refl _ w).alloc (Nat.le_refl _) _).alloc (by omega) _).alloc (by omega) _).trans (hb.mono (by omega))

theorem w64 {x : Int} (h : -9223372036854775808 ≤ x ∧ x ≤ 9223372036854775807) : wrap64 x = x := by unfold wrap64; omega
/-- The own steps of an iterator: what lay ahead of its start stays, and so do all cells but those of its own type. -/
structure OwnTo (T : TypeId) (n1 : Nat) (A B : World) : Prop where
  os : B.os = A.os
  tape : B.tape = A.tape
  output : B.output = A.output
  size : A.heap.size ≤ B.heap.size
  low : ∀ k, k < n1 → B.heap[k]? = A.heap[k]?
  cells : ∀ (k : Nat) (C : Array Value) (t : TypeId) (fr : Nat × Nat), A.heap[k]? = some (Obj.cells C t fr) → t ≠ T → B.heap[k]? = A.heap[k]?
theorem OwnTo.refl (T : TypeId) (n : Nat) (A : World) : OwnTo T n A A := ⟨rfl, rfl, rfl, Nat.le_refl _, fun _ _ => rfl, fun _ _ _ _ _ _ => rfl⟩
theorem OwnTo.trans {T : TypeId} {n : Nat} {A B C : World} (h : OwnTo T n A B) (k : OwnTo T n B C) : OwnTo T n A C :=
  ⟨k.os.trans h.os, k.tape.trans h.tape, k.output.trans h.output, Nat.le_trans h.size k.size, fun i hi => (k.low i hi).trans (h.low i hi), fun i D t fr hb ht => (k.cells i D t fr ((h.cells i D t fr hb ht).trans hb) ht).trans (h.cells i D t fr hb ht)⟩
theorem OwnTo.of_below {T : TypeId} {n : Nat} {A B : World} (h : Below A.heap.size A B) (hn : n ≤ A.heap.size) : OwnTo T n A B :=
  ⟨h.os, h.tape, h.output, h.size, fun k hk => h.block k (by omega), fun k C t fr hb _ => h.block k (Array.getElem?_eq_some_iff.1 hb).1⟩
theorem OwnTo.below {T : TypeId} {n m : Nat} {w A B : World} (h : OwnTo T n A B) (hb : Below m w A) (hm : m ≤ n) : Below m w B :=
  ⟨h.os.trans hb.os, h.tape.trans hb.tape, h.output.trans hb.output, Nat.le_trans hb.size h.size, fun k hk => (h.low k (by omega)).trans (hb.block k hk)⟩

/-- What a round must keep: the cells that p names. -/
structure KpP (p : Nat → TypeId → Prop) (A B : World) : Prop where
  size : A.heap.size ≤ B.heap.size
  cells : ∀ (k : Nat) (C : Array Value) (t : TypeId) (fr : Nat × Nat), A.heap[k]? = some (Obj.cells C t fr) → p k t → B.heap[k]? = A.heap[k]?
theorem KpP.refl (p : Nat → TypeId → Prop) (A : World) : KpP p A A := ⟨Nat.le_refl _, fun _ _ _ _ _ _ => rfl⟩
theorem KpP.trans {p : Nat → TypeId → Prop} {A B C : World} (h : KpP p A B) (k : KpP p B C) : KpP p A C :=
  ⟨Nat.le_trans h.size k.size, fun i D t fr hb ht => (k.cells i D t fr ((h.cells i D t fr hb ht).trans hb) ht).trans (h.cells i D t fr hb ht)⟩
theorem KpP.of_below {p : Nat → TypeId → Prop} {A B : World} (h : Below A.heap.size A B) : KpP p A B := ⟨h.size, fun k C t fr hb _ => h.block k (Array.getElem?_eq_some_iff.1 hb).1⟩
theorem KpP.mono {p q : Nat → TypeId → Prop} {A B : World} (h : KpP p A B) (hq : ∀ k t, q k t → p k t) : KpP q A B := ⟨h.size, fun k C t fr hb ht => h.cells k C t fr hb (hq k t ht)⟩
theorem KpP.putObj {p : Nat → TypeId → Prop} {W : World} {l : Nat} {o o' : Obj} (h : W.heap[l]? = some o) (hc : o.isCells = false) : KpP p W (W.putObj l o') :=
  ⟨by simp, fun k C t fr hb _ => World.putObj_heap_other (fun q => by rw [q, h] at hb; cases hb; cases hc)⟩

variable {P : Program} {α : Type}

/-- What an iterator promises: it yields L, or a beginning of it if a round has said no; its own steps are OwnTo T. -/
def SeqN (P : Program) (n g : Nat) (lb : Array Value) (encs : α → Array Value) (T : TypeId) (Kp : World → World → Prop) (L : List α) (St : World → Prop) : Prop :=
  ∀ (l : Nat) (J Jx : List α → World → Prop) (W : World), St W → l < W.heap.size → (∀ s A B, J s A → OwnTo T W.heap.size A B → J s B) → (∀ s A B, Jx s A → OwnTo T W.heap.size A B → Jx s B) →
    (∀ pre x W1, J pre W1 → pre ++ [x] <+: L → YieldAt Fence.wide (n - 1) P l (encs x) W1 fun e W' =>
      (e = .returned (.bool true) ∧ (J (pre ++ [x]) W' ∧ Kp W1 W') ∧ KeepsFrom W.heap.size W1 W') ∨ (e = .returned (.bool false) ∧ Jx (pre ++ [x]) W' ∧ KeepsFrom W.heap.size W1 W')) →
    J [] W →
    CallsIn Fence.wide n P g (#[.func (.yield l) #[] #[]] ++ lb) W fun e W' => (∃ v, e = .returned v) ∧ (J L W' ∨ (∃ pre, pre <+: L ∧ Jx pre W'))

theorem rangeN {g : Operand} {ps : Array Tmp} {assign body : Code} {Q : Exit → Act → World → Prop} {a : Act} {w : World} {n : Nat} {gf : Nat} {lb : Array Value} (hg : a.eval g = .func (.func gf) #[] lb)
    (eg : ∀ args w, (callFunc gf args).run P w = .ok (.enter gf args) w) {encs : α → Array Value} {T : TypeId} {Kp : World → World → Prop} {L : List α} {St : World → Prop}
    (hseq : SeqN P (n - 1) gf lb encs T Kp L St) (hSt : ∀ o o', St ((w.alloc o).alloc o'))
    (hKn : ∀ A B, Below A.heap.size A B → Kp A B)
    (hKt : ∀ A B C : World, Kp A B → Kp B C → Kp A C) (hKb : ∀ (W : World) (l : Nat) (o o' : Obj), w.heap.size ≤ l → W.heap[l]? = some o → o.isCells = false → o.isWalk = false → Kp W (W.putObj l o'))
    (hps : ∀ x, (encs x).size = ps.size)
    (I : List α → World → Prop) (Ix : Code → List α → World → Prop) (hI : OwnFrom w.heap.size I) (hIx : ∀ c, OwnFrom w.heap.size (Ix c)) (hII : ∀ s A B, I s A → OwnTo T (w.heap.size + 2) A B → I s B) (hIxI : ∀ c s A B, Ix c s A → OwnTo T (w.heap.size + 2) A B → Ix c s B)
    (h0 : I [] w) (V : α → Act → World → Prop) (hV : ∀ x a', OwnFrom w.heap.size (fun (_ : Unit) W => V x a' W))
    (hassign : ∀ (l : Nat) (pre : List α) (x : α) (W : World) (K : Act → World → Prop), I pre W → (∀ a' W', Below W.heap.size W W' → V x a' W' → K a' W') →
      assign.wpIn (Fence.wide.inRound l) (n - 1 - 1) P (Exit.then K (fun _ _ _ => False)) { tmps := (ps.zip (encs x)).foldl (fun t (p, v) => t.setIfInBounds p v) a.tmps, defers := [] } W)
    (hbody : ∀ (l : Nat) (pre : List α) (x : α) (a' : Act) (W : World), I pre W → V x a' W → pre ++ [x] <+: L → body.wpIn (Fence.wide.inRound l) (n - 1 - 1) P (ownPostG w.heap.size Kp I Ix (pre ++ [x]) W) a' W)
    (hdone : ∀ (D : Nat) (W : World), w.heap.size ≤ D → I L W → W.heap[D]? = some (.deferred (some [])) → Q .normal { a with defers := { target := .collected D, args := #[] } :: a.defers } W)
    (hstop : ∀ (D : Nat) (c : Code) (pre : List α) (W : World), w.heap.size ≤ D → pre <+: L → Ix c pre W → W.heap[D]? = some (.deferred (some [])) → c.wpIn Fence.wide n P Q { a with defers := { target := .collected D, args := #[] } :: a.defers } W) :
    (Code.rangeFunc g ps assign body).wpIn Fence.wide n P Q a w := by
  refine wpIn_rangeFunc ?_
  intro fn hfn
  rw [show Fence.wide.round = none from rfl]
  obtain ⟨rec, hrec⟩ : ∃ rec : LoopState → Option Code → Loop, rec = fun st pe => { state := st, pending := pe, fn, tmps := a.tmps, params := ps, assign, body, defers := w.heap.size } := ⟨_, rfl⟩
  obtain ⟨W1, hW1⟩ : ∃ W1, (w.alloc (.deferred (some []))).alloc (.loop (rec .ready none)) = W1 := ⟨_, rfl⟩
  have hL1 : W1.heap[w.heap.size + 1]? = some (.loop (rec .ready none)) := by
    rw [← hW1]; have := World.alloc_heap_new (w.alloc (.deferred (some []))) (.loop (rec .ready none)); rwa [World.size_alloc] at this
  have hK1 : W1.heap[w.heap.size]? = some (.deferred (some [])) := by
    rw [← hW1]; exact (Below.heap_alloc _ _ _ (by simp)).trans (World.alloc_heap_new w _)
  have hI1 : I [] W1 := by rw [← hW1]; exact hI.alloc _ (hI.alloc _ h0)
  have hS1 : St W1 := by rw [← hW1]; exact hSt _ _
  refine ⟨w.heap.size + 1, [{ target := .collected w.heap.size, args := #[] }], W1, { target := .fn (.func gf) lb, args := #[.func (.yield (w.heap.size + 1)) #[] #[]] }, W1, gf,
    #[.func (.yield (w.heap.size + 1)) #[] #[]] ++ lb, W1, ?_, ?_, ?_, ?_, fun h => (by cases h), ?_⟩
  · rw [← hW1, hrec]; exact run_enterLoop_outer _ _ _ _ _
  · simp only [resolve, hg]
    simp [go_sem]
  · intro f' hf'; simp [Target.leads] at hf'; subst hf'; trivial
  · simp [invoke, go_sem, eg]
  · have hz1 : W1.heap.size = w.heap.size + 2 := by rw [← hW1]; simp
    have keep : ∀ {A B : World}, OwnTo T W1.heap.size A B → ∀ {k : Nat} {o : Obj}, k < w.heap.size + 2 → A.heap[k]? = some o → B.heap[k]? = some o := fun h k o hk ho => (h.low k (by omega)).trans ho
    have hput : ∀ (W : World) (o : Obj), KeepsFrom W1.heap.size W (W.putObj (w.heap.size + 1) o) := fun W o => ⟨by simp, fun k o' hk hk' _ => (World.putObj_heap_other (by omega)).trans hk'⟩
    have hup : ∀ {A B : World}, KeepsFrom w.heap.size A B → KeepsFrom W1.heap.size A B := fun h => ⟨h.size, fun k o hk => h.same k o (by omega)⟩
    refine (hseq (w.heap.size + 1)
      (fun pre W => I pre W ∧ W.heap[w.heap.size + 1]? = some (.loop (rec .ready none)) ∧ W.heap[w.heap.size]? = some (.deferred (some [])))
      (fun pre W => ∃ c, Ix c pre W ∧ W.heap[w.heap.size + 1]? = some (.loop (rec .done (some c))) ∧ W.heap[w.heap.size]? = some (.deferred (some [])))
      W1 hS1 (by omega)
      (fun s A B hs hi => ⟨hII s A B hs.1 (hz1 ▸ hi), keep hi (by omega) hs.2.1, keep hi (by omega) hs.2.2⟩)
      (fun s A B hs hi => by
        obtain ⟨c, hc, hl, hk⟩ := hs
        exact ⟨c, hIxI c s A B hc (hz1 ▸ hi), keep hi (by omega) hl, keep hi (by omega) hk⟩)
      ?_ ⟨hI1, hL1, hK1⟩).mono ?_
    · rintro pre x W0 ⟨hi0, hl0, hk0⟩ hlen
      have hy := run_yield (P := P) (args := encs x) hl0 (by rw [hrec]; exact hps x)
      rw [hrec] at hy
      refine ⟨fn, _, assign, body, hy, roundIn_of_wpIn hfn (hassign _ pre x W0 _ hi0 (fun a' W hbn hv => ?_))⟩
      have hlt0 : w.heap.size + 1 < W0.heap.size := (Array.getElem?_eq_some_iff.1 hl0).1
      have hkp := hKn _ _ hbn
      have hkf : KeepsFrom W1.heap.size W0 W := below_keeps hbn
      have hi := hII pre W0 W hi0 (OwnTo.of_below hbn (by omega))
      have hl := (hbn.block _ hlt0).trans hl0
      have hk := (hbn.block _ (by omega)).trans hk0
      have hlt : w.heap.size + 1 < W.heap.size := (Array.getElem?_eq_some_iff.1 hl).1
      refine ⟨_, run_beginRound hl (by rw [hrec]), ?_⟩
      have hl2 : (W.putObj (w.heap.size + 1) (.loop { rec .ready none with state := .busy })).heap[w.heap.size + 1]? = some (.loop { rec .ready none with state := .busy }) := World.putObj_heap_same hlt
      have hk2 : (W.putObj (w.heap.size + 1) (.loop { rec .ready none with state := .busy })).heap[w.heap.size]? = some (.deferred (some [])) := (World.putObj_heap_other (by omega)).trans hk
      have hw2 : Kp W (W.putObj (w.heap.size + 1) (.loop { rec .ready none with state := .busy })) := hKb _ _ _ _ (by omega) hl rfl rfl
      refine wpIn_mono (hbody _ pre x a' _ (hI.putObj _ hi (by omega) hl rfl) ((hV x a').putObj (s := ()) _ hv (by omega) hl rfl) hlen) ?_
      have fin : ∀ (jump : Option Code) (W3 : World), KeepsFrom w.heap.size (W.putObj (w.heap.size + 1) (.loop { rec .ready none with state := .busy })) W3 →
          (Instr.endRound (w.heap.size + 1) jump).run P W3 = .ok (.bool jump.isNone) (W3.putObj (w.heap.size + 1) (.loop (rec (if jump.isNone then .ready else .done) jump))) ∧
          W3.heap[w.heap.size + 1]? = some (.loop { rec .ready none with state := .busy }) ∧
          (W3.putObj (w.heap.size + 1) (.loop (rec (if jump.isNone then .ready else .done) jump))).heap[w.heap.size + 1]? = some (.loop (rec (if jump.isNone then .ready else .done) jump)) ∧
          (W3.putObj (w.heap.size + 1) (.loop (rec (if jump.isNone then .ready else .done) jump))).heap[w.heap.size]? = some (.deferred (some [])) := fun jump W3 hk3 => by
        have hl3 := hk3.same _ _ (by omega) hl2 rfl
        have := run_endRound (P := P) jump hl3
        rw [hrec] at this ⊢
        exact ⟨this, by rw [hrec] at hl3; exact hl3, World.putObj_heap_same (Array.getElem?_eq_some_iff.1 hl3).1, (World.putObj_heap_other (by omega)).trans (hk3.same _ _ (Nat.le_refl _) hk2 rfl)⟩
      have leave : ∀ (c : Code) (W3 : World), KeepsFrom w.heap.size (W.putObj (w.heap.size + 1) (.loop { rec .ready none with state := .busy })) W3 → Ix c (pre ++ [x]) W3 → _ := fun c W3 hk3 hi3 => by
        obtain ⟨hr, hl3, hl4, hk4⟩ := fin (some c) W3 hk3
        exact (⟨_, _, hr, .inr ⟨rfl, ⟨c, (hIx _).putObj _ hi3 (by omega) hl3 rfl, hl4, hk4⟩, (hkf.trans ((hput _ _).trans (hup hk3))).trans (hput _ _)⟩⟩ : ∃ v W', (Instr.endRound (w.heap.size + 1) (some c)).run P W3 = .ok v W' ∧
          ((Ending.returned v = .returned (.bool true) ∧ ((I (pre ++ [x]) W' ∧ W'.heap[w.heap.size + 1]? = some (.loop (rec .ready none)) ∧ W'.heap[w.heap.size]? = some (.deferred (some []))) ∧ Kp W0 W') ∧ KeepsFrom W1.heap.size W0 W') ∨
          (Ending.returned v = .returned (.bool false) ∧ (∃ c, Ix c (pre ++ [x]) W' ∧ W'.heap[w.heap.size + 1]? = some (.loop (rec .done (some c))) ∧ W'.heap[w.heap.size]? = some (.deferred (some []))) ∧ KeepsFrom W1.heap.size W0 W')))
      rintro e a3 W3 hp
      cases e with
      | normal =>
        obtain ⟨hk3, hkp3, hi3⟩ := hp
        obtain ⟨hr, hl3, hl4, hk4⟩ := fin none W3 hk3
        exact ⟨_, _, hr, .inl ⟨rfl, ⟨⟨hI.putObj _ hi3 (by omega) hl3 rfl, hl4, hk4⟩, hKt _ _ _ (hKt _ _ _ (hKt _ _ _ hkp hw2) hkp3) (hKb _ _ _ _ (by omega) hl3 rfl rfl)⟩, (hkf.trans ((hput _ _).trans (hup hk3))).trans (hput _ _)⟩⟩
      | ret => exact leave .ret W3 hp.1 hp.2
      | exit id => exact leave (.exit id) W3 hp.1 hp.2
      | goto t => exact leave (.goto t) W3 hp.1 hp.2
      | panic ch => exact hp.elim
      | outgrown => exact hp.elim
    · rintro e W2 ⟨⟨v, rfl⟩, (⟨hi, hl, hk⟩ | ⟨pre, hSp, c, hi, hl, hk⟩)⟩
      · exact ⟨none, _, by have := run_endLoop (P := P) hl (by rw [hrec]; simp); rw [hrec] at this; exact this, hdone _ _ (Nat.le_refl _) (hI.putObj _ hi (by omega) hl rfl) ((World.putObj_heap_other (by omega)).trans hk)⟩
      · exact ⟨some c, _, by have := run_endLoop (P := P) hl (by rw [hrec]; simp); rw [hrec] at this; exact this, hstop _ c pre _ (Nat.le_refl _) hSp ((hIx c).putObj _ hi (by omega) hl rfl) ((World.putObj_heap_other (by omega)).trans hk)⟩
end Go.Proofs.YtebdboacmeafaaaGreat
