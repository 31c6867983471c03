/- outcomes as an iterator: it yields all that flashes can become. -/
import Derived.Test.YtjbdmlpadoiicaaGreatDoorF0
import Derived.Laws.EntriesVeiled
import Derived.Test.YtjbdmlpadoiicaaGreatDoorB1
set_option linter.unusedVariables false
set_option linter.unusedSimpArgs false
namespace Go.Proofs.YtjbdmlpadoiicaaGreatDoor
open Go.RowKit Go.Shelf
attribute [local go_sem] Oper.semAt_some

theorem wide_room (k : Nat) : Fence.wide.room k := fun d h => by cases h
theorem YieldAt.wideAny {m m' : Nat} {P : Program} {l : Nat} {args : Array Value} {W : World} {R : Ending → World → Prop} (h : YieldAt Fence.wide m P l args W R) : YieldAt Fence.wide m' P l args W R := by
  obtain ⟨fn, tmps, assign, body, hy, hR⟩ := h
  exact ⟨fn, tmps, assign, body, hy, hR.1, fun c cs _ => hR.2 c cs (wide_room _)⟩

/-- What a round must keep: all that lay below, and the blocks that are neither rows of strings nor boxes of such rows. -/
def KpT (n₀ : Nat) (A X : World) : Prop := Below n₀ A X ∧ ∀ (b : Nat) (C : Array Value) (t : TypeId) (fr : Nat × Nat), A.heap[b]? = some (Obj.cells C t fr) → t ≠ 9 → t ≠ 41 → X.heap[b]? = A.heap[b]?
theorem KpT.trans {n₀ : Nat} {A X Y : World} (h : KpT n₀ A X) (k : KpT n₀ X Y) : KpT n₀ A Y :=
  ⟨h.1.trans k.1, fun b C t fr hb h1 h2 => (k.2 b C t fr ((h.2 b C t fr hb h1 h2).trans hb) h1 h2).trans (h.2 b C t fr hb h1 h2)⟩

/-- The iterator's own step: new blocks, and draws. -/
def ItG (A X : World) : Prop := A.grownBy X none
theorem ItG.drewN (A : World) (n : Nat) : ItG A (A.drewN n) := ⟨rfl, rfl, rfl, by simp, fun k _ _ => by simp⟩

set_option maxHeartbeats 1000000 in
theorem outcomes1_seq (n : Nat) (Sb Fb n₀ : Nat) (s : List UInt8) (f : Nat) (hs : s.length ≤ 100) (hf : f ≤ 2) (hSb : Sb < n₀) :
    SeqC Tryz.prog n 125 #[.pointer (some ⟨Sb, 0, none⟩), .pointer (some ⟨Fb, 0, none⟩)] (fun x : List UInt8 => #[.string (B x)]) ItG (KpT n₀) (fun xs => xs = outL s f) (fun pre => pre <+: outL s f) (outL s f).length
      (fun W => n₀ ≤ W.heap.size ∧ Fb < W.heap.size ∧ W.cell? ⟨Sb, 0, none⟩ = some (.string (B s)) ∧ W.cell? ⟨Fb, 0, none⟩ = some (.int .i64 f)) := by
  rintro l J Jx W ⟨hn, hFb, hs0, hf0⟩ hJ hJx hY h0
  obtain ⟨Yb, eY⟩ : ∃ Yb, W.heap.size = Yb := ⟨_, rfl⟩
  have hwalk := walk_any s hs l Yb Sb (Yb + 1)
    (fun pre X => J pre X ∧ X.heap[Yb]? = some (.cells #[.func (.yield l) #[] #[]] 34 (0, 0)) ∧ X.heap[Yb + 1]? = some (.cells #[.func (.func 126) #[] #[.pointer (some ⟨Yb, 0, none⟩), .pointer (some ⟨Sb, 0, none⟩), .pointer (some ⟨Yb + 1, 0, none⟩)]] 182 (0, 0))) Jx (outL s f)
    (fun p A m h => ⟨hJ _ _ _ h.1 (ItG.drewN A m), by simpa using h.2.1, by simpa using h.2.2⟩)
    (fun m pre x W1 h hlt => by
      refine YieldAt.mono (YieldAt.wideAny (hY pre x W1 h.1 hlt)) ?_
      rintro e W' (⟨rfl, hj, hk⟩ | h')
      · have k1 := hk.2 _ _ _ _ h.2.1 (by decide) (by decide)
        have k2 := hk.2 _ _ _ _ h.2.2 (by decide) (by decide)
        refine .inl ⟨rfl, ⟨hj, k1.trans h.2.1, k2.trans h.2.2⟩, fun b hb => ?_⟩
        simp at hb
        rcases hb with rfl | rfl | rfl
        · exact k1
        · exact hk.1.block _ hSb
        · exact k2
      · exact .inr h')
    f 0 [] []
  have HW := Lib.hid hwalk; have HJ := Lib.hid hJ; have HJx := Lib.hid hJx; have HS := Lib.hid hSb
  clear hwalk hJ hJx hY
  subst eY
  refine callsIn_of_wp Tryz.func125 rfl trivial ?_ rfl
  simp only [Tryz.ntmps125, List.size_toArray, List.length_cons, List.length_nil, Nat.reduceAdd, Nat.reduceSub, Array.replicate_succ, Array.replicate_zero, List.push_toArray, List.append_toArray, List.nil_append, List.cons_append]
  gi_wp2
  refine ⟨trivial, (fun h => by cases h), ?_⟩
  have c1 : ((W.alloc (.cells #[.func (.yield l) #[] #[]] 34)).alloc (.cells #[.func (.func 126) #[] #[.pointer (some ⟨W.heap.size, 0, none⟩), .pointer (some ⟨Sb, 0, none⟩), .pointer (some ⟨W.heap.size + 1, 0, none⟩)]] 182)).heap[W.heap.size]? = some (.cells #[.func (.yield l) #[] #[]] 34 (0, 0)) := by
    rw [Below.heap_alloc _ _ _ (by simp)]; exact World.alloc_heap_new W _
  have c2 : ((W.alloc (.cells #[.func (.yield l) #[] #[]] 34)).alloc (.cells #[.func (.func 126) #[] #[.pointer (some ⟨W.heap.size, 0, none⟩), .pointer (some ⟨Sb, 0, none⟩), .pointer (some ⟨W.heap.size + 1, 0, none⟩)]] 182)).heap[W.heap.size + 1]? = some (.cells #[.func (.func 126) #[] #[.pointer (some ⟨W.heap.size, 0, none⟩), .pointer (some ⟨Sb, 0, none⟩), .pointer (some ⟨W.heap.size + 1, 0, none⟩)]] 182 (0, 0)) := by
    have := World.alloc_heap_new (W.alloc (.cells #[.func (.yield l) #[] #[]] 34)) (.cells #[.func (.func 126) #[] #[.pointer (some ⟨W.heap.size, 0, none⟩), .pointer (some ⟨Sb, 0, none⟩), .pointer (some ⟨W.heap.size + 1, 0, none⟩)]] 182)
    rwa [World.size_alloc] at this
  have hg : ItG W ((W.alloc (.cells #[.func (.yield l) #[] #[]] 34)).alloc (.cells #[.func (.func 126) #[] #[.pointer (some ⟨W.heap.size, 0, none⟩), .pointer (some ⟨Sb, 0, none⟩), .pointer (some ⟨W.heap.size + 1, 0, none⟩)]] 182)) :=
    ⟨rfl, rfl, rfl, by simp; omega, fun k hk _ => by rw [Below.heap_alloc _ _ _ (by simp; omega), Below.heap_alloc _ _ _ hk]⟩
  have hSs : Sb < W.heap.size := by omega
  have HJ0 := HJ.out _ _ _ h0 hg
  have HH := fun hb => HW.out ((W.alloc (.cells #[.func (.yield l) #[] #[]] 34)).alloc (.cells #[.func (.func 126) #[] #[.pointer (some ⟨W.heap.size, 0, none⟩), .pointer (some ⟨Sb, 0, none⟩), .pointer (some ⟨W.heap.size + 1, 0, none⟩)]] 182)) (n - 1) (by omega) (by simp; omega) (by omega) (by simp only [List.nil_append]; exact List.prefix_refl _) ⟨HJ0, c1, c2⟩ hb
  refine (HH ⟨(World.cell?_of_block (a := ⟨W.heap.size, 0, none⟩) (w := W.alloc (.cells #[.func (.yield l) #[] #[]] 34)) (Below.heap_alloc _ _ _ (by simp))).trans (by go_simp), (World.cell?_of_block (hg.block Sb hSs (by simp))).trans hs0, by go_simp⟩).mono ?_
  clear HH HJ0 c1 c2
  rintro e W6 (⟨rfl, hJ6, _⟩ | ⟨rfl, pre', hp6, hx6⟩)
  · gi_wp2
    go_end0
    exact ⟨⟨_, rfl⟩, .inl ⟨_, rfl, by simpa [outL] using hJ6.1⟩⟩
  · gi_wp2
    go_end0
    exact ⟨⟨_, rfl⟩, .inr ⟨_, hp6, hx6⟩⟩

/-- The same in the library's words. -/
theorem outcomes1_stops (n : Nat) (Sb Fb n₀ : Nat) (s : List UInt8) (f : Nat) (w : World) (hs : s.length ≤ 100) (hf : f ≤ 2) (hSb : Sb < n₀) (hn : n₀ ≤ w.heap.size) (hFb : Fb < w.heap.size)
    (h0 : w.cell? ⟨Sb, 0, none⟩ = some (.string (B s))) (h1 : w.cell? ⟨Fb, 0, none⟩ = some (.int .i64 f)) :
    SeqStopsK Fence.wide n Tryz.prog 125 #[.pointer (some ⟨Sb, 0, none⟩), .pointer (some ⟨Fb, 0, none⟩)] (fun x : List UInt8 => #[.string (B x)]) (KpT n₀) (fun xs => xs = outL s f) (fun pre => pre <+: outL s f) (outL s f).length w :=
  fun l J Jx W hW hJ hJx hY h => outcomes1_seq n Sb Fb n₀ s f hs hf hSb l J Jx W ⟨Nat.le_trans hn hW.size, Nat.lt_of_lt_of_le hFb hW.size, (hW.cell (p := ⟨Sb, 0, none⟩) (Nat.lt_of_lt_of_le hSb hn)).trans h0, (hW.cell (p := ⟨Fb, 0, none⟩) hFb).trans h1⟩
    (fun s A B hs hi => hJ s A B none hs hi (fun r e => by cases e)) (fun s A B hs hi => hJx s A B none hs hi (fun r e => by cases e)) hY h

/-! ### How many there are -/
def bdL : Nat → Nat
  | 0 => 1
  | k + 1 => 1 + 300 * bdL k
theorem walkL_le (s : List UInt8) (hs : s.length ≤ 100) : ∀ (left frm : Nat) (done : List UInt8), (walkL s left frm done).length ≤ bdL left
  | 0, _, _ => by simp [walkL_zero, bdL]
  | left + 1, frm, done => by
    have hst : ∀ k, (stepL s left frm k done).length ≤ 3 * bdL left := fun k => by
      have h1 := walkL_le s hs left (k + 1) (done ++ cutL s frm k)
      have h2 := walkL_le s hs left (k + 1) (done ++ cutL s frm k ++ cutL s k (k + 1) ++ cutL s k (k + 1))
      have h3 := walkL_le s hs left (k + 2) (done ++ cutL s frm k ++ cutL s (k + 1) (k + 2) ++ cutL s k (k + 1))
      unfold stepL; split <;> split <;> simp only [List.length_append, List.length_nil] <;> omega
    have hm : ∀ m, (stepsL s left frm done m).length ≤ m * (3 * bdL left) := fun m => by
      induction m with
      | zero => simp [stepsL]
      | succ m ih => rw [stepsL_succ, List.length_append, Nat.succ_mul]; have := hst (frm + m); omega
    rw [walkL_succ, List.length_cons]
    have := hm (s.length - frm)
    have h2 : (s.length - frm) * (3 * bdL left) ≤ 100 * (3 * bdL left) := Nat.mul_le_mul_right _ (by omega)
    simp only [bdL]; omega
theorem outL_le (s : List UInt8) (f : Nat) (hs : s.length ≤ 100) (hf : f ≤ 2) : (outL s f).length ≤ 100000 := by
  have := walkL_le s hs f 0 []
  rcases (by omega : f = 0 ∨ f = 1 ∨ f = 2) with rfl | rfl | rfl <;> simp only [bdL] at this <;> unfold outL <;> omega
end Go.Proofs.YtjbdmlpadoiicaaGreatDoor

/-! slices.Collect of strings, against whatever iterator. -/
namespace Go.Proofs.YtjbdmlpadoiicaaGreatDoor
open Go.RowKit Go.Shelf
attribute [local go_sem] Oper.semAt_some

def encT (x : List UInt8) : Value := .string (B x)
theorem info_str : (Tryz.prog.info? 9).map (fun i => (i.zero, i.size, i.bytes)) = some (some (.string ⟨#[]⟩), 1, 16) := by kernel_rfl

theorem kpT_b {n₀ : Nat} {w : World} (hn : n₀ ≤ w.heap.size) (W : World) (l : Nat) (o o' : Obj) (hl : w.heap.size ≤ l) (h : W.heap[l]? = some o) (h1 : o.isCells = false) (h2 : o.isWalk = false) : KpT n₀ W (W.putObj l o') := by
  refine ⟨belowK_b hn W l o o' hl h h1 h2, fun b C t fr hb _ _ => World.putObj_heap_other ?_⟩
  rintro rfl
  rw [h] at hb; cases hb; cases h1
theorem kpT_appended {W w1 : World} {n₀ b k : Nat} {v v' : Value} {xs : List Value} {tmp : Obj} (hv : Boxed W b 41 v) (hrow : W.ownsRow n₀ 9 1 v k xs) (hgrow : (W.alloc tmp).grownBy w1 v.ownBlock) (hb : Below n₀ W (w1.setCell ⟨b, 0, none⟩ v')) : KpT n₀ W (w1.setCell ⟨b, 0, none⟩ v') := by
  refine ⟨hb, fun c C t fr hc h1 h2 => ?_⟩
  have hlt := (Array.getElem?_eq_some_iff.1 hc).1
  have hcb : c ≠ b := by
    rintro rfl
    rw [show W.heap[c]? = _ from hv] at hc; cases hc; exact h2 rfl
  have hcr : some c ≠ v.ownBlock := by
    rcases hrow.2 with ⟨rfl, _⟩ | ⟨g, cap, cur, rfl, _, hg, _⟩
    · simp [Value.ownBlock]
    · intro e
      obtain rfl : c = g := by simpa [Value.ownBlock] using e
      rw [hg] at hc; cases hc; exact h1 rfl
  rw [Below.heap_setCell _ _ _ c hcb, hgrow.block c (by simp; omega) hcr]
  exact Below.heap_alloc _ _ c hlt

set_option maxRecDepth 100000 in
set_option maxHeartbeats 1000000 in
theorem appendSeqS (n : Nat) (hn : 2 ≤ n) {S Sp : List (List UInt8) → Prop} {N : Nat} (hN : N ≤ 1000000) (g : Nat) (lb : Array Value) (eg : ∀ args w, (callFunc g args).run Tryz.prog w = .ok (.enter g args) w) (w : World)
    (hseq : SeqStopsK Fence.wide (n - 1) Tryz.prog g lb (fun x : List UInt8 => #[.string (B x)]) (KpT w.heap.size) S Sp N w) :
    CallsIn Fence.wide n Tryz.prog 137 #[.slice none 0 0, .func (.func g) #[] lb] w fun e w' =>
      ∃ (v : Value) (xs : List (List UInt8)), e = .returned v ∧ S xs ∧ w'.ownsRow w.heap.size 9 1 v xs.length (xs.map encT) ∧ (v = .slice none 0 0 ↔ xs = []) ∧ Below w.heap.size w w' := by
  have h1 : 1 ≤ n := by omega
  obtain ⟨i0, hi, hz0, hz1, hz2⟩ := info_parts info_str
  refine callsIn_of_wp_marks Tryz.func137 rfl trivial ?_ rfl
  simp only [Tryz.ntmps137, List.size_toArray, List.length_cons, List.length_nil, Nat.reduceAdd, Nat.reduceSub, Array.replicate_succ, Array.replicate_zero, List.push_toArray, List.append_toArray, List.nil_append, List.cons_append]
  gi_wp2
  have bO := Boxed.new w 41 (.slice none 0 0)
  have hB0 : Below w.heap.size w (w.alloc (.cells #[.slice none 0 0] 41)) := (Below.refl _ w).alloc (Nat.le_refl _) _
  refine wpIn_rangeFunc_ownG rfl h1 (gf := g) (lb := lb) rfl trivial eg hseq KpT.trans (kpT_b (by simp)) hB0 (fun _ => rfl)
    (fun pre W => (∃ v, Boxed W w.heap.size 41 v ∧ W.ownsRow w.heap.size 9 1 v pre.length (pre.map encT) ∧ (v = .slice none 0 0 ↔ pre = [])) ∧ Below w.heap.size w W)
    (fun _ _ _ => False)
    (OwnFrom.and (Own.from (holdsRow_own w.heap.size w.heap.size 41 9 1 (fun pre => pre.length) (fun pre => pre.map encT) (fun pre v => v = .slice none 0 0 ↔ pre = [])) _) (ownFrom_below (Nat.le_refl _) (by simp)))
    (fun _ _ _ _ _ hs _ _ => hs)
    ⟨⟨_, bO, World.ownsRow_nil _ _ _ _, by simp⟩, hB0⟩
    (fun x => { tmps := #[.slice none 0 0, .func (.func g) #[] lb, .pointer (some ⟨w.heap.size, 0, none⟩), undef, .slice none 0 0, .string (B x), .func (.func g) #[] lb, .string (B x), undef, undef, undef, undef, undef], defers := [] }) ?assign ?body ?done ?stop
  case assign =>
    intro l x W K hK
    gi_wp2
    exact hK
  case body =>
    rintro l pre x W ⟨⟨v, hv, hrow, hnil⟩, hB⟩ hlt
    have hc := hv.cell
    gi_wp2_with (gi_at_builtin; refine wpListIn_append_own _ rfl _ _ 41 rfl w.heap.size 9 i0 (.string ⟨#[]⟩) 1 16 Tryz.underlying41 hi hz0 hz1 hz2 rfl (by decide) _ _ _ rfl (hrow.alloc _) ⟨W.heap.size, 0, none⟩ 1 1 [.string (B x)] rfl rfl (cell_one_new _ _ _) (by simp [Value.oneCell']) (by unfold maxLen; omega) (by omega) (by have := hB.size; simp; omega) ?_; intro v' w1 hown' hgrow _; obtain ⟨g', cap', rfl⟩ := ownsRow_succ hown'; obtain ⟨hv1, hv2, hr2, hk2, hb2⟩ := hv.appended (by decide) hrow hB.size (Nat.le_refl _) hown' hgrow; have hkp := Lib.hid (kpT_appended (v' := .slice (some ⟨g', 0, none⟩) (pre.length + 1) cap') hv hrow hgrow hb2); have hc1 := hv1.cell; have hf1 := hv1.frozen)
    exact ⟨hk2.from _, hkp.out, ⟨_, hv2, by simpa [encT] using hr2, by simp⟩, hB.trans hb2⟩
  case done =>
    rintro D ys W hD hS ⟨⟨v, hv, hrow, hnil⟩, hB⟩ hK
    have hc := hv.cell
    gi_wp2
    refine ⟨by simp, .inl ⟨_, _, rfl, run_takeDeferred hK, ?_⟩⟩
    exact ⟨_, results_tmp rfl _ _ _, v, ys, rfl, hS, ownsRow_putObj hrow _ hK rfl, hnil, hB.trans (belowK_b (w := w) (Nat.le_refl _) W D _ _ (by simp at hD; omega) hK rfl rfl)⟩
  case stop =>
    rintro D c pre W _ _ h _
    exact h.elim

theorem collectS (n : Nat) (hn : 3 ≤ n) {S Sp : List (List UInt8) → Prop} {N : Nat} (hN : N ≤ 1000000) (g : Nat) (lb : Array Value) (eg : ∀ args w, (callFunc g args).run Tryz.prog w = .ok (.enter g args) w) (w : World)
    (hseq : SeqStopsK Fence.wide (n - 1 - 1) Tryz.prog g lb (fun x : List UInt8 => #[.string (B x)]) (KpT w.heap.size) S Sp N w) :
    CallsIn Fence.wide n Tryz.prog 123 #[.func (.func g) #[] lb] w fun e w' =>
      ∃ (v : Value) (xs : List (List UInt8)), e = .returned v ∧ S xs ∧ w'.ownsRow w.heap.size 9 1 v xs.length (xs.map encT) ∧ (v = .slice none 0 0 ↔ xs = []) ∧ Below w.heap.size w w' := by
  refine callsIn_of_wp Tryz.func123 rfl trivial ?_ rfl
  simp only [Tryz.ntmps123, List.size_toArray, List.length_cons, List.length_nil, Nat.reduceAdd, Nat.reduceSub, Array.replicate_succ, Array.replicate_zero, List.push_toArray, List.append_toArray, List.nil_append, List.cons_append]
  gi_wp2_with (refine ⟨trivial, (fun h => by cases h), ?_⟩; gi_at_call 137; refine (appendSeqS (n - 1) (by omega) hN g lb eg _ hseq).mono ?_; rintro e w' ⟨v, xs, rfl, hS, hrow, hnil, hb⟩)
  go_ret
  exact ⟨v, xs, rfl, hS, hrow, hnil, hb⟩
end Go.Proofs.YtjbdmlpadoiicaaGreatDoor
