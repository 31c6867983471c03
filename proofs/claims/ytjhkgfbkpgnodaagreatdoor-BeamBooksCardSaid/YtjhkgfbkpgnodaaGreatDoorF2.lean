/- outcomes as an iterator: it yields all that flashes can become. -/
import Derived.Test.YtjhkgfbkpgnodaaGreatDoorF0
import Derived.Laws.EntriesVeiled
namespace Go.Proofs.YtjhkgfbkpgnodaaGreatDoor
open Go.RowKit Go.Shelf
attribute [local go_sem] Oper.semAt_some

theorem wide_room (k : Nat) : Fence.wide.room k := fun d h => by cases h
theorem YieldAt.wideAny {m m' : Nat} {P : Program} {l : Nat} {args : Array Value} {W : World} {R : Ending → World → Prop} (h : YieldAt Fence.wide m P l args W R) : YieldAt Fence.wide m' P l args W R := by
  obtain ⟨fn, tmps, assign, body, hy, hR⟩ := h
  exact ⟨fn, tmps, assign, body, hy, hR.1, fun c cs _ => hR.2 c cs (wide_room _)⟩

/-- What a round must keep: all that lay below, and the blocks that are neither rows of strings nor boxes of such rows. -/
def KpT (n₀ : Nat) (A X : World) : Prop := Below n₀ A X ∧ ∀ (b : Nat) (C : Array Value) (t : TypeId) (fr : Nat × Nat), A.heap[b]? = some (Obj.cells C t fr) → t ≠ 9 → t ≠ 41 → X.heap[b]? = A.heap[b]?
theorem KpT.trans {n₀ : Nat} {A X Y : World} (h : KpT n₀ A X) (k : KpT n₀ X Y) : KpT n₀ A Y :=
  ⟨h.1.trans k.1, fun b C t fr hb h1 h2 => (k.2 b C t fr ((h.2 b C t fr hb h1 h2).trans hb) h1 h2).trans (h.2 b C t fr hb h1 h2)⟩

/-- The iterator's own step: new blocks, and draws. -/
def ItG (A X : World) : Prop := A.grownBy X none
theorem ItG.drewN (A : World) (n : Nat) : ItG A (A.drewN n) := ⟨rfl, rfl, rfl, by simp, fun k _ _ => by simp⟩

set_option maxHeartbeats 1000000 in
theorem outcomes1_seq (n : Nat) (Sb Fb n₀ : Nat) (s : List UInt8) (f : Nat) (hs : s.length ≤ 100) (hf : f ≤ 2) (hSb : Sb < n₀) :
    SeqC Tryz.prog n 125 #[.pointer (some ⟨Sb, 0, none⟩), .pointer (some ⟨Fb, 0, none⟩)] (fun x : List UInt8 => #[.string (B x)]) ItG (KpT n₀) (fun xs => xs = outL s f) (fun pre => pre <+: outL s f) (outL s f).length
      (fun W => n₀ ≤ W.heap.size ∧ Fb < W.heap.size ∧ W.cell? ⟨Sb, 0, none⟩ = some (.string (B s)) ∧ W.cell? ⟨Fb, 0, none⟩ = some (.int .i64 f)) := by
  rintro l J Jx W ⟨hn, hFb, hs0, hf0⟩ hJ hJx hY h0
  obtain ⟨Yb, eY⟩ : ∃ Yb, W.heap.size = Yb := ⟨_, rfl⟩
  have hwalk := walk_any s hs l Yb Sb (Yb + 1)
    (fun pre X => J pre X ∧ X.heap[Yb]? = some (.cells #[.func (.yield l) #[] #[]] 34 (0, 0)) ∧ X.heap[Yb + 1]? = some (.cells #[.func (.func 126) #[] #[.pointer (some ⟨Yb, 0, none⟩), .pointer (some ⟨Sb, 0, none⟩), .pointer (some ⟨Yb + 1, 0, none⟩)]] 182 (0, 0))) Jx (outL s f)
    (fun p A m h => ⟨hJ _ _ _ h.1 (ItG.drewN A m), by simpa using h.2.1, by simpa using h.2.2⟩)
    (fun m pre x W1 h hlt => by
      refine YieldAt.mono (YieldAt.wideAny (hY pre x W1 h.1 hlt)) ?_
      rintro e W' (⟨rfl, hj, hk⟩ | h')
      · have k1 := hk.2 _ _ _ _ h.2.1 (by decide) (by decide)
        have k2 := hk.2 _ _ _ _ h.2.2 (by decide) (by decide)
        refine .inl ⟨rfl, ⟨hj, k1.trans h.2.1, k2.trans h.2.2⟩, fun b hb => ?_⟩
        simp at hb
        rcases hb with rfl | rfl | rfl
        · exact k1
        · exact hk.1.block _ hSb
        · exact k2
      · exact .inr h')
    f 0 [] []
  have HW := Lib.hid hwalk; have HJ := Lib.hid hJ; have HJx := Lib.hid hJx; have HS := Lib.hid hSb
  clear hwalk hJ hJx hY
  subst eY
  refine callsIn_of_wp Tryz.func125 rfl trivial ?_ rfl
  simp only [Tryz.ntmps125, List.size_toArray, List.length_cons, List.length_nil, Nat.reduceAdd, Nat.reduceSub, Array.replicate_succ, Array.replicate_zero, List.push_toArray, List.append_toArray, List.nil_append, List.cons_append]
  gi_wp2
  refine ⟨trivial, (fun h => by cases h), ?_⟩
  have c1 : ((W.alloc (.cells #[.func (.yield l) #[] #[]] 34)).alloc (.cells #[.func (.func 126) #[] #[.pointer (some ⟨W.heap.size, 0, none⟩), .pointer (some ⟨Sb, 0, none⟩), .pointer (some ⟨W.heap.size + 1, 0, none⟩)]] 182)).heap[W.heap.size]? = some (.cells #[.func (.yield l) #[] #[]] 34 (0, 0)) := by
    rw [Below.heap_alloc _ _ _ (by simp)]; exact World.alloc_heap_new W _
  have c2 : ((W.alloc (.cells #[.func (.yield l) #[] #[]] 34)).alloc (.cells #[.func (.func 126) #[] #[.pointer (some ⟨W.heap.size, 0, none⟩), .pointer (some ⟨Sb, 0, none⟩), .pointer (some ⟨W.heap.size + 1, 0, none⟩)]] 182)).heap[W.heap.size + 1]? = some (.cells #[.func (.func 126) #[] #[.pointer (some ⟨W.heap.size, 0, none⟩), .pointer (some ⟨Sb, 0, none⟩), .pointer (some ⟨W.heap.size + 1, 0, none⟩)]] 182 (0, 0)) := by
    have := World.alloc_heap_new (W.alloc (.cells #[.func (.yield l) #[] #[]] 34)) (.cells #[.func (.func 126) #[] #[.pointer (some ⟨W.heap.size, 0, none⟩), .pointer (some ⟨Sb, 0, none⟩), .pointer (some ⟨W.heap.size + 1, 0, none⟩)]] 182)
    rwa [World.size_alloc] at this
  have hg : ItG W ((W.alloc (.cells #[.func (.yield l) #[] #[]] 34)).alloc (.cells #[.func (.func 126) #[] #[.pointer (some ⟨W.heap.size, 0, none⟩), .pointer (some ⟨Sb, 0, none⟩), .pointer (some ⟨W.heap.size + 1, 0, none⟩)]] 182)) :=
    ⟨rfl, rfl, rfl, by simp; omega, fun k hk _ => by rw [Below.heap_alloc _ _ _ (by simp; omega), Below.heap_alloc _ _ _ hk]⟩
  have hSs : Sb < W.heap.size := by omega
  have HJ0 := HJ.out _ _ _ h0 hg
  have HH := fun hb => HW.out ((W.alloc (.cells #[.func (.yield l) #[] #[]] 34)).alloc (.cells #[.func (.func 126) #[] #[.pointer (some ⟨W.heap.size, 0, none⟩), .pointer (some ⟨Sb, 0, none⟩), .pointer (some ⟨W.heap.size + 1, 0, none⟩)]] 182)) (n - 1) (by omega) (by simp; omega) (by omega) (by simp only [List.nil_append]; exact List.prefix_refl _) ⟨HJ0, c1, c2⟩ hb
  refine (HH ⟨(World.cell?_of_block (a := ⟨W.heap.size, 0, none⟩) (w := W.alloc (.cells #[.func (.yield l) #[] #[]] 34)) (Below.heap_alloc _ _ _ (by simp))).trans (by go_simp), (World.cell?_of_block (hg.block Sb hSs (by simp))).trans hs0, by go_simp⟩).mono ?_
  clear HH HJ0 c1 c2
  rintro e W6 (⟨rfl, hJ6, _⟩ | ⟨rfl, pre', hp6, hx6⟩)
  · gi_wp2
    go_end0
    exact ⟨⟨_, rfl⟩, .inl ⟨_, rfl, by simpa [outL] using hJ6.1⟩⟩
  · gi_wp2
    go_end0
    exact ⟨⟨_, rfl⟩, .inr ⟨_, hp6, hx6⟩⟩

/-- The same in the library's words. -/
theorem outcomes1_stops (n : Nat) (Sb Fb n₀ : Nat) (s : List UInt8) (f : Nat) (w : World) (hs : s.length ≤ 100) (hf : f ≤ 2) (hSb : Sb < n₀) (hn : n₀ ≤ w.heap.size) (hFb : Fb < w.heap.size)
    (h0 : w.cell? ⟨Sb, 0, none⟩ = some (.string (B s))) (h1 : w.cell? ⟨Fb, 0, none⟩ = some (.int .i64 f)) :
    SeqStopsK Fence.wide n Tryz.prog 125 #[.pointer (some ⟨Sb, 0, none⟩), .pointer (some ⟨Fb, 0, none⟩)] (fun x : List UInt8 => #[.string (B x)]) (KpT n₀) (fun xs => xs = outL s f) (fun pre => pre <+: outL s f) (outL s f).length w :=
  fun l J Jx W hW hJ hJx hY h => outcomes1_seq n Sb Fb n₀ s f hs hf hSb l J Jx W ⟨Nat.le_trans hn hW.size, Nat.lt_of_lt_of_le hFb hW.size, (hW.cell (p := ⟨Sb, 0, none⟩) (Nat.lt_of_lt_of_le hSb hn)).trans h0, (hW.cell (p := ⟨Fb, 0, none⟩) hFb).trans h1⟩
    (fun s A B hs hi => hJ s A B none hs hi (fun r e => by cases e)) (fun s A B hs hi => hJx s A B none hs hi (fun r e => by cases e)) hY h

/-! ### How many there are -/
def bdL : Nat → Nat
  | 0 => 1
  | k + 1 => 1 + 300 * bdL k
theorem walkL_le (s : List UInt8) (hs : s.length ≤ 100) : ∀ (left frm : Nat) (done : List UInt8), (walkL s left frm done).length ≤ bdL left
  | 0, _, _ => by simp [walkL_zero, bdL]
  | left + 1, frm, done => by
    have hst : ∀ k, (stepL s left frm k done).length ≤ 3 * bdL left := fun k => by
      have h1 := walkL_le s hs left (k + 1) (done ++ cutL s frm k)
      have h2 := walkL_le s hs left (k + 1) (done ++ cutL s frm k ++ cutL s k (k + 1) ++ cutL s k (k + 1))
      have h3 := walkL_le s hs left (k + 2) (done ++ cutL s frm k ++ cutL s (k + 1) (k + 2) ++ cutL s k (k + 1))
      unfold stepL; split <;> split <;> simp only [List.length_append, List.length_nil] <;> omega
    have hm : ∀ m, (stepsL s left frm done m).length ≤ m * (3 * bdL left) := fun m => by
      induction m with
      | zero => simp [stepsL]
      | succ m ih => rw [stepsL_succ, List.length_append, Nat.succ_mul]; have := hst (frm + m); omega
    rw [walkL_succ, List.length_cons]
    have := hm (s.length - frm)
    have h2 : (s.length - frm) * (3 * bdL left) ≤ 100 * (3 * bdL left) := Nat.mul_le_mul_right _ (by omega)
    simp only [bdL]; omega
theorem outL_le (s : List UInt8) (f : Nat) (hs : s.length ≤ 100) (hf : f ≤ 2) : (outL s f).length ≤ 100000 := by
  have := walkL_le s hs f 0 []
  rcases (by omega : f = 0 ∨ f = 1 ∨ f = 2) with rfl | rfl | rfl <;> simp only [bdL] at this <;> unfold outL <;> omega
end Go.Proofs.YtjhkgfbkpgnodaaGreatDoor
