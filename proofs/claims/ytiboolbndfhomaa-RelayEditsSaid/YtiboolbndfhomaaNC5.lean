/- The iterator parts of package relay: what is left of spans. -/
import Derived.Test.YtiboolbndfhomaaNC1
import Derived.Test.YtiboolbndfhomaaR0
import Derived.RangeFuncNested
import Derived.RangeFuncBound
import Derived.RangeFuncCalls
import Derived.RangeFuncLeaves
import Derived.Shelf.Abstract
import Derived.Shelf.RegionOpen
import Derived.OwnWalkIn
import Derived.TacticsInMore
import Derived.LoopNIn
import Derived.LoopIn
set_option linter.unusedVariables false
set_option linter.unusedSimpArgs false
namespace Go.Proofs.Ytiboolbndfhomaa
open Go.RowKit
attribute [local go_sem] Oper.semAt_some

def partS (c s : Sp) : List Sp := (if s.1 < c.1 then [(s.1, min s.2 (c.1 - 1))] else []) ++ (if c.2 < s.2 then [(max s.1 (c.2 + 1), s.2)] else [])
def partsL (l : List Sp) (c : Sp) : List Sp := l.flatMap (partS c)
theorem partsL_take (l : List Sp) (c : Sp) {k : Nat} (h : k < l.length) : partsL (l.take (k + 1)) c = partsL (l.take k) c ++ partS c (l.getD k (0, 0)) := by
  unfold partsL
  rw [List.take_succ_eq_append_getElem h, List.flatMap_append, List.getD_eq_getElem?_getD, List.getElem?_eq_getElem h]; simp
theorem partsL_pre (l : List Sp) (c : Sp) (k : Nat) : partsL (l.take k) c <+: partsL l c := by
  refine ⟨partsL (l.drop k) c, ?_⟩
  unfold partsL; rw [← List.flatMap_append, List.take_append_drop]
/-- The block of the slice that lies in the box e. -/
def ownB (W : World) (e : Nat) : Option Nat := match W.cell? ⟨e, 0, none⟩ with
  | some v => v.ownBlock
  | none => none
/-- A round of Closed's loop changes its box and the row that lies in it alone. -/
structure Kp5 (e : Nat) (A B : World) : Prop where
  size : A.heap.size ≤ B.heap.size
  same : ∀ b C t fr, A.heap[b]? = some (.cells C t fr) → b ≠ e → ownB A e ≠ some b → B.heap[b]? = A.heap[b]?
  row : ∀ g, ownB B e = some g → ownB A e = some g ∨ (A.heap.size ≤ g ∧ g < B.heap.size)
theorem Kp5.trans {e : Nat} {A B C : World} (h : Kp5 e A B) (k : Kp5 e B C) : Kp5 e A C := by
  refine ⟨Nat.le_trans h.size k.size, fun b D t fr hb hbe hbo => ?_, fun g hg => ?_⟩
  · have h1 := h.same b D t fr hb hbe hbo
    have h2 := k.same b D t fr (h1.trans hb) hbe (fun q => by
      rcases h.row b q with q2 | q2
      · exact hbo q2
      · have := (Array.getElem?_eq_some_iff.1 hb).1; omega)
    exact h2.trans h1
  · have hs := h.size
    have ks := k.size
    rcases k.row g hg with h1 | ⟨h1, h2⟩
    · rcases h.row g h1 with h3 | ⟨h3, h4⟩
      · exact .inl h3
      · exact .inr ⟨h3, by omega⟩
    · exact .inr ⟨by omega, h2⟩
/-- What the iterator of parts reads. -/
structure St5 (e b1 b2 bo : Nat) (a : Option Addr) (cap : Nat) (l : List Sp) (c : Sp) (W : World) : Prop where
  h1 : W.heap[b1]? = some (.cells #[.slice a l.length cap] 25 (0, 0))
  h2 : W.heap[b2]? = some (.cells #[.int .i64 c.1, .int .i64 c.2] 52 (0, 0))
  h3 : ∀ k, k < l.length → ∃ off C t fr, a = some ⟨bo, off, none⟩ ∧ W.heap[bo]? = some (.cells C t fr) ∧ C[off + k * 2]? = some (.int .i64 (l.getD k (0, 0)).1) ∧ C[off + k * 2 + 1]? = some (.int .i64 (l.getD k (0, 0)).2)
  hel : e < W.heap.size
  hbo : bo < W.heap.size
  own : ∀ g, ownB W e = some g → g < W.heap.size ∧ g ≠ b1 ∧ g ≠ b2 ∧ g ≠ bo
  ne : e ≠ b1 ∧ e ≠ b2 ∧ e ≠ bo
theorem ownB_same {A B : World} {e : Nat} (h : B.heap[e]? = A.heap[e]?) : ownB B e = ownB A e := by
  unfold ownB; rw [World.cell?_of_block (w := A) (a := ⟨e, 0, none⟩) h]
theorem St5.below {e b1 b2 bo : Nat} {a : Option Addr} {cap : Nat} {l : List Sp} {c : Sp} {A B : World} (h : St5 e b1 b2 bo a cap l c A) (hb : Below A.heap.size A B) : St5 e b1 b2 bo a cap l c B := by
  refine ⟨(hb.block _ (Array.getElem?_eq_some_iff.1 h.h1).1).trans h.h1, (hb.block _ (Array.getElem?_eq_some_iff.1 h.h2).1).trans h.h2, fun k hk => ?_, Nat.lt_of_lt_of_le h.hel hb.size, Nat.lt_of_lt_of_le h.hbo hb.size, fun g hg => ?_, h.ne⟩
  · obtain ⟨off, C, t, fr, q1, q2, q3⟩ := h.h3 k hk
    exact ⟨off, C, t, fr, q1, (hb.block _ (Array.getElem?_eq_some_iff.1 q2).1).trans q2, q3⟩
  · rw [ownB_same (hb.block e h.hel)] at hg
    obtain ⟨q1, q2⟩ := h.own g hg
    exact ⟨Nat.lt_of_lt_of_le q1 hb.size, q2⟩
theorem St5.round {e b1 b2 bo : Nat} {a : Option Addr} {cap : Nat} {l : List Sp} {c : Sp} {A B : World} (h : St5 e b1 b2 bo a cap l c A) (hk : Kp5 e A B) : St5 e b1 b2 bo a cap l c B := by
  obtain ⟨n1, n2, n3⟩ := h.ne
  refine ⟨(hk.same _ _ _ _ h.h1 (fun q => n1 q.symm) (fun q => (h.own _ q).2.1 rfl)).trans h.h1, (hk.same _ _ _ _ h.h2 (fun q => n2 q.symm) (fun q => (h.own _ q).2.2.1 rfl)).trans h.h2, fun k hkl => ?_, Nat.lt_of_lt_of_le h.hel hk.size, Nat.lt_of_lt_of_le h.hbo hk.size, fun g hg => ?_, h.ne⟩
  · obtain ⟨off, C, t, fr, q1, q2, q3⟩ := h.h3 k hkl
    exact ⟨off, C, t, fr, q1, (hk.same _ _ _ _ q2 (fun q => n3 q.symm) (fun q => (h.own _ q).2.2.2 rfl)).trans q2, q3⟩
  · have hs := hk.size
    rcases hk.row g hg with q1 | ⟨q1, q2⟩
    · obtain ⟨r1, r2⟩ := h.own g q1
      exact ⟨by omega, r2⟩
    · have l1 := (Array.getElem?_eq_some_iff.1 h.h1).1
      have l2 := (Array.getElem?_eq_some_iff.1 h.h2).1
      have l3 := h.hbo
      exact ⟨q2, by omega, by omega, by omega⟩

set_option maxRecDepth 100000 in
set_option maxHeartbeats 8000000 in
theorem parts1_seq (n e b1 b2 bo : Nat) (a : Option Addr) (cap : Nat) (l : List Sp) (c : Sp) (hl : l.length ≤ 12) (hbd : ∀ s ∈ l, 0 ≤ s.1 ∧ s.1 ≤ s.2 ∧ s.2 ≤ 1048576) (hc : c.1 ≤ 9223372036854775807 ∧ -9223372036854775808 ≤ c.2) :
    SeqC Try.prog n 53 #[.pointer (some ⟨b1, 0, none⟩), .pointer (some ⟨b2, 0, none⟩)] (fun x : Sp => #[.agg #[.int .i64 x.1, .int .i64 x.2]]) (fun A B => Below A.heap.size A B) (Kp5 e) (fun xs => xs = partsL l c) (fun pre => pre <+: partsL l c) (partsL l c).length (St5 e b1 b2 bo a cap l c) := by
  rintro y J Jx W hSt hJ hJx hY h0
  have HSt := Lib.hid hSt; have HJ := Lib.hid hJ; have HJx := Lib.hid hJx; have HY := Lib.hid hY; have HBd := Lib.hid hbd
  obtain ⟨hc1, hc2⟩ := hc
  have r1 : W.cell? ⟨b1, 0, none⟩ = some (.slice a l.length cap) := cellH hSt.h1 0
  clear hSt hJ hJx hY hbd
  refine callsIn_of_wp Try.func53 rfl trivial ?_ rfl
  simp only [Try.ntmps53, List.size_toArray, List.length_cons, List.length_nil, Nat.reduceAdd, Nat.reduceSub, Array.replicate_succ, Array.replicate_zero, List.push_toArray, List.append_toArray, List.nil_append, List.cons_append]
  gi_wp2
  gi_loopw [8] (fun i wr => ∃ k : Nat, k ≤ l.length ∧ i = .int .i64 k ∧ J (partsL (l.take k) c) wr ∧ Hid (St5 e b1 b2 bo a cap l c wr)) (fun i _ => l.length - (intOf i).toNat)
  case atStart => exact ⟨0, Nat.zero_le _, rfl, h0, HSt⟩
  case round =>
    obtain ⟨k, hk, rfl, hJs, hS⟩ := hrel
    clear r1
    by_cases hlt : k < l.length
    · obtain ⟨off, C, ty, fr, rfl, hbo, e0, e1⟩ := hS.out.h3 k hlt
      have hki : (k : Int) < l.length := by omega
      have hk0 : (0 : Int) ≤ k := by omega
      have f0 := (cellH hbo (off + k * 2)).trans e0
      have f1 := (cellH hbo (off + k * 2 + 1)).trans e1
      obtain ⟨s0, s1, s2⟩ := HBd.out _ (sp_mem hlt)
      have HT := Lib.hid (partsL_take l c hlt)
      have HP := Lib.hid (partsL_pre l c (k + 1))
      obtain ⟨⟨lo, hi⟩, hx⟩ : ∃ x, l.getD k (0, 0) = x := ⟨_, rfl⟩
      rw [hx] at f0 f1 s0 s1 s2 HT
      simp only at f0 f1 s0 s1 s2
      obtain ⟨pk, hpk⟩ : ∃ pk, partsL (l.take k) c = pk := ⟨_, rfl⟩
      rw [hpk] at hJs HT
      obtain ⟨nx, hnx⟩ : ∃ nx, partsL (l.take (k + 1)) c = nx := ⟨_, rfl⟩
      rw [hnx] at HT HP
      have HNX := Lib.hid hnx
      have hq1 : Below wr.heap.size wr (wr.alloc (.cells #[.int .i64 lo, .int .i64 hi] 52)) := (Below.refl _ wr).alloc (Nat.le_refl _) _
      have HSq := Lib.hid (hS.out.below hq1)
      have hJq := HJ.out _ _ _ hJs hq1
      have hbq : (wr.alloc (.cells #[.int .i64 lo, .int .i64 hi] 52)).heap[wr.heap.size]? = some (.cells #[.int .i64 lo, .int .i64 hi] 52 (0, 0)) := heap_alloc_new _ _
      have hb2 : b2 < wr.heap.size := (Array.getElem?_eq_some_iff.1 hS.out.h2).1
      have hb2n : b2 ≠ wr.heap.size := by omega
      have t0 : wr.cell? ⟨b2, 0, none⟩ = some (.int .i64 c.1) := cellH hS.out.h2 0
      have t1 : wr.cell? ⟨b2, 1, none⟩ = some (.int .i64 c.2) := cellH hS.out.h2 1
      have hqe : wr.heap.size ≠ e := by have := hS.out.hel; omega
      have hqo : ownB (wr.alloc (.cells #[.int .i64 lo, .int .i64 hi] 52)) e ≠ some wr.heap.size := fun q => by
        rw [ownB_same (gNe _ _ _ (by have := hS.out.hel; omega))] at q
        have := (hS.out.own _ q).1; omega
      have HQ := Lib.hid (And.intro hqe hqo)
      have HBq := Lib.hid hbq
      obtain ⟨c1, hcc1⟩ : ∃ z, c.1 = z := ⟨_, rfl⟩
      obtain ⟨c2, hcc2⟩ : ∃ z, c.2 = z := ⟨_, rfl⟩
      rw [hcc1] at t0; rw [hcc2] at t1
      have hc1' : c1 ≤ 9223372036854775807 := by omega
      have hc2' : -9223372036854775808 ≤ c2 := by omega
      have HE : Hid (partS c (lo, hi) = (if lo < c1 then [(lo, min hi (c1 - 1))] else []) ++ (if c2 < hi then [(max lo (c2 + 1), hi)] else [])) := Lib.hid (by unfold partS; rw [hcc1, hcc2])
      have HC2 : Hid (c.2 = c2) := Lib.hid hcc2
      clear e0 e1 hbo hx hpk hnx hq1 hbq hcc1 hcc2 hqe hqo hS
      by_cases q1 : lo < c1
      · have hw1 : IntKind.i64.wrap (c1 - 1) = c1 - 1 := IntWalk.i64_in _ (by omega)
        have HP1 : Hid (pk ++ [(lo, min hi (c1 - 1))] <+: partsL l c) := Lib.hid (by
          refine List.IsPrefix.trans ?_ HP.out
          rw [HT.out, HE.out, if_pos q1, ← List.append_assoc]; exact List.prefix_append _ _)
        have hlen1 : pk.length < (partsL l c).length := by
          have h1 := HP1.out.length_le
          simp only [List.length_append, List.length_cons, List.length_nil] at h1; omega
        obtain ⟨fn, tmps, assign, body, hy, hR⟩ := HY.out pk (lo, min hi (c1 - 1)) _ hJq hlen1
        simp only at hy
        clear hlen1
        gi_wp2
        refine ⟨(fun h => by cases h), ?_⟩
        refine hR.mono ?_
        rintro e3 W3 (⟨rfl, hJ3, hk3⟩ | ⟨rfl, hJx3⟩)
        · have hS3 := HSq.out.round hk3
          have hq3 := (hk3.same _ _ _ _ HBq.out HQ.out.1 HQ.out.2).trans HBq.out
          have p0 : W3.cell? ⟨wr.heap.size, 0, none⟩ = some (.int .i64 lo) := cellH hq3 0
          have p1 : W3.cell? ⟨wr.heap.size, 1, none⟩ = some (.int .i64 hi) := cellH hq3 1
          have p2 : W3.cell? ⟨b2, 1, none⟩ = some (.int .i64 c2) := by rw [cellH hS3.h2 1, ← HC2.out]; rfl
          have HS3 := Lib.hid hS3
          clear hS3 hq3 hk3
          by_cases q2 : c2 < hi
          · have hw2 : IntKind.i64.wrap (c2 + 1) = c2 + 1 := IntWalk.i64_in _ (by omega)
            have HN : Hid (nx = (pk ++ [(lo, min hi (c1 - 1))]) ++ [(max lo (c2 + 1), hi)]) := Lib.hid (by rw [HT.out, HE.out, if_pos q1, if_pos q2]; simp)
            have hlen2 : (pk ++ [(lo, min hi (c1 - 1))]).length < (partsL l c).length := by
              have h1 := HP.out.length_le
              rw [HN.out] at h1; simp only [List.length_append, List.length_cons, List.length_nil] at h1 ⊢; omega
            obtain ⟨fn2, tmps2, assign2, body2, hy2, hR2⟩ := HY.out (pk ++ [(lo, min hi (c1 - 1))]) (max lo (c2 + 1), hi) _ hJ3 hlen2
            simp only at hy2
            have HR2 := Lib.hid hR2
            clear hlen2 hR2
            gi_wp2
            refine ⟨(fun h => by cases h), ?_⟩
            refine HR2.out.mono ?_
            rintro e4 W4 (⟨rfl, hJ4, hk4⟩ | ⟨rfl, hJx3⟩)
            · gi_wp2
              go_roundw
              case rel => exact ⟨k + 1, by omega, by go_num, by rw [HNX.out, HN.out]; exact hJ4, Lib.hid (HS3.out.round hk4)⟩
              case measure => simp [intOf]; omega
            · gi_wp2
              refine bodyPost_ret (results_none rfl _ _ _) rfl ?_
              exact ⟨⟨_, rfl⟩, .inr ⟨_, by rw [← HN.out]; exact HP.out, hJx3⟩⟩
          · have g2 : decide (c2 < hi) = false := decide_eq_false q2
            have HN : Hid (nx = (pk ++ [(lo, min hi (c1 - 1))])) := Lib.hid (by rw [HT.out, HE.out, if_pos q1, if_neg q2]; simp)
            gi_wp2
            all_goals try (refine ⟨(fun f h => by cases h), ?_⟩; gi_wp2)
            all_goals try go_roundw
            all_goals first | exact ⟨k + 1, by omega, by go_num, by rw [HNX.out, HN.out]; exact hJ3, Lib.hid HS3.out⟩ | (simp [intOf]; omega)
        · gi_wp2
          refine bodyPost_ret (results_none rfl _ _ _) rfl ?_
          exact ⟨⟨_, rfl⟩, .inr ⟨_, HP1.out, hJx3⟩⟩
      · have g1 : decide (lo < c1) = false := decide_eq_false q1
        by_cases q2 : c2 < hi
        · have hw2 : IntKind.i64.wrap (c2 + 1) = c2 + 1 := IntWalk.i64_in _ (by omega)
          have HN : Hid (nx = pk ++ [(max lo (c2 + 1), hi)]) := Lib.hid (by rw [HT.out, HE.out, if_neg q1, if_pos q2]; simp)
          have hlen2 : pk.length < (partsL l c).length := by
            have h1 := HP.out.length_le
            rw [HN.out] at h1; simp only [List.length_append, List.length_cons, List.length_nil] at h1 ⊢; omega
          obtain ⟨fn2, tmps2, assign2, body2, hy2, hR2⟩ := HY.out pk (max lo (c2 + 1), hi) _ hJq hlen2
          simp only at hy2
          have HR2 := Lib.hid hR2
          clear hlen2 hR2
          gi_wp2
          all_goals
            refine ⟨(fun f h => by cases h), ?_⟩
            gi_wp2
            refine ⟨(fun h => by cases h), ?_⟩
            refine HR2.out.mono ?_
            rintro e4 W4 (⟨rfl, hJ4, hk4⟩ | ⟨rfl, hJx3⟩)
            · gi_wp2
              go_roundw
              case rel => exact ⟨k + 1, by omega, by go_num, by rw [HNX.out, HN.out]; exact hJ4, Lib.hid (HSq.out.round hk4)⟩
              case measure => simp [intOf]; omega
            · gi_wp2
              refine bodyPost_ret (results_none rfl _ _ _) rfl ?_
              exact ⟨⟨_, rfl⟩, .inr ⟨_, by rw [← HN.out]; exact HP.out, hJx3⟩⟩
        · have g2 : decide (c2 < hi) = false := decide_eq_false q2
          have HN : Hid (nx = pk) := Lib.hid (by rw [HT.out, HE.out, if_neg q1, if_neg q2]; simp)
          gi_wp2
          all_goals try (refine ⟨(fun f h => by cases h), ?_⟩; gi_wp2)
          all_goals try (refine ⟨(fun f h => by cases h), ?_⟩; gi_wp2)
          all_goals try go_roundw
          all_goals first | exact ⟨k + 1, by omega, by go_num, by rw [HNX.out, HN.out]; exact hJq, Lib.hid HSq.out⟩ | (simp [intOf]; omega)
    · have hke : l.take k = l := List.take_of_length_le (by omega)
      rw [hke] at hJs
      gi_wp2
      go_end0
      exact ⟨⟨_, rfl⟩, .inl ⟨_, rfl, hJs⟩⟩
end Go.Proofs.Ytiboolbndfhomaa
