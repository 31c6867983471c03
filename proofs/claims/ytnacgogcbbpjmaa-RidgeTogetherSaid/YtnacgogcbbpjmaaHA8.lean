/- The iterator of blocks of package ridge: an iterator that ranges over another one. -/
import Derived.Test.YtnacgogcbbpjmaaHA7
set_option linter.unusedVariables false
set_option linter.unusedSimpArgs false
namespace Go.Proofs.Ytnacgogcbbpjmaa
open Go Go.RowKit
attribute [local go_sem] Oper.semAt_some

theorem roundIn_any {n m : Nat} {P : Program} {l : Nat} {f : FuncId} {tmps : Array Value} {assign body : Code} {w : World} {R : Ending → World → Prop} (h : RoundIn Fence.wide n P l f tmps assign body w R) (l' : Nat) : RoundIn (Fence.wide.inRound l') m P l f tmps assign body w R :=
  ⟨h.1, fun c cs _ => h.2 c cs (room_wide _)⟩
theorem OwnTo.mono {T : TypeId} {n m : Nat} {A B : World} (h : OwnTo T m A B) (hn : n ≤ m) : OwnTo T n A B := ⟨h.os, h.tape, h.output, h.size, fun k hk => h.low k (by omega), h.cells⟩
theorem OwnTo.of_grown {T : TypeId} {n : Nat} {A B : World} {row : Option Nat} (hg : A.grownBy B row) (hn : n ≤ A.heap.size) (hr : ∀ r, row = some r → n ≤ r ∧ ∃ o : Obj, A.heap[r]? = some o ∧ o.isCells = false) : OwnTo T n A B :=
  ⟨hg.os, hg.tape, hg.output, hg.size, fun k hk => hg.block k (by omega) (fun e => by have := (hr k e.symm).1; omega), fun k C t fr hk _ => hg.block k (Array.getElem?_eq_some_iff.1 hk).1 (fun e => by
    obtain ⟨_, o, ho, hc⟩ := hr k e.symm
    rw [hk] at ho; cases ho; cases hc)⟩
theorem BkSt.own {M A B F T : Nat} {wd hg : Int} {o : Value} {a b : Pl} {u v : Int} {W X Y : World} {n0 : Nat} {t : TypeId} {n : Nat} (h : BkSt M A B F T wd hg o a b u v X) (hbl : M < W.heap.size ∧ A < W.heap.size ∧ B < W.heap.size ∧ F < W.heap.size ∧ T < W.heap.size ∧ n0 ≤ W.heap.size) (k : OwnTo t n X Y) (hn : W.heap.size ≤ n) : BkSt M A B F T wd hg o a b u v Y := by
  obtain ⟨b1, b2, b3, b4, b5, _⟩ := hbl
  exact ⟨(k.low _ (by omega)).trans h.m, (k.low _ (by omega)).trans h.a, (k.low _ (by omega)).trans h.b, (k.low _ (by omega)).trans h.f, (k.low _ (by omega)).trans h.t⟩
theorem BkSt.grown {M A B F T : Nat} {wd hg : Int} {o : Value} {a b : Pl} {u v : Int} {W X Y : World} {n0 : Nat} {row : Option Nat} (h : BkSt M A B F T wd hg o a b u v X) (hbl : M < W.heap.size ∧ A < W.heap.size ∧ B < W.heap.size ∧ F < W.heap.size ∧ T < W.heap.size ∧ n0 ≤ W.heap.size) (hgr : X.grownBy Y row) (hr : ∀ r, row = some r → W.heap.size ≤ r) (hn : W.heap.size ≤ X.heap.size) : BkSt M A B F T wd hg o a b u v Y := by
  obtain ⟨b1, b2, b3, b4, b5, _⟩ := hbl
  have k : ∀ i, i < W.heap.size → Y.heap[i]? = X.heap[i]? := fun i hi => hgr.block i (by omega) (fun e => by have := hr _ e.symm; omega)
  exact ⟨(k _ b1).trans h.m, (k _ b2).trans h.a, (k _ b3).trans h.b, (k _ b4).trans h.f, (k _ b5).trans h.t⟩
theorem BkSt.kp {M A B F T : Nat} {wd hg : Int} {o : Value} {a b : Pl} {u v : Int} {X Y : World} (h : BkSt M A B F T wd hg o a b u v X) (k : KpP (fun _ _ => True) X Y) : BkSt M A B F T wd hg o a b u v Y :=
  ⟨(k.cells _ _ _ _ h.m trivial).trans h.m, (k.cells _ _ _ _ h.a trivial).trans h.a, (k.cells _ _ _ _ h.b trivial).trans h.b, (k.cells _ _ _ _ h.f trivial).trans h.f, (k.cells _ _ _ _ h.t trivial).trans h.t⟩
theorem OwnTo.of_leaves {T : TypeId} {n : Nat} {A B : World} (h : KC5 A B) (hb : Below n A B) : OwnTo T n A B := ⟨hb.os, hb.tape, hb.output, h.1, fun k hk => hb.block k hk, fun k C t fr hk _ => (h.2 k C t fr hk).trans hk.symm⟩
theorem keeps_mono {m n : Nat} {A B : World} (h : KeepsFrom m A B) (hn : m ≤ n) : KeepsFrom n A B := ⟨h.size, fun k o hk => h.same k o (by omega)⟩
/-- The ground at a crossing is higher than the line between two heights. -/
def overB (u v : Int) (x : Mt) : Bool := decide (partI x u v < x.g)
def crO (x : Mt) : Int × Int := (x.ax, x.k)
def blk (g : List Int) (wd : Int) (a b : Pl) (u v : Int) : List (Int × Int) := ((mts g wd a b).filter (overB u v)).map crO
theorem crsM_mem (dx dy : Nat) : ∀ (f p q : Nat), (dx - p) + (dy - q) ≤ f → CrOk dx dy p q → ∀ i k, (i, k) ∈ crsM dx dy p q ↔ (i = 0 ∧ p ≤ k ∧ k < dx) ∨ (i = 1 ∧ q ≤ k ∧ k < dy)
  | f, p, q, hf, h, i, k => by
    by_cases hc : p < dx ∨ q < dy
    · by_cases hl : q * dx < p * dy
      · obtain ⟨e, h'⟩ := crsM_one h hc hl
        have hq := h.one hc hl
        match f, hf with
        | 0, hf => omega
        | f + 1, hf =>
          have ih := crsM_mem dx dy f p (q + 1) (by omega) h' i k
          rw [e, List.mem_cons, ih, Prod.mk.injEq]
          omega
      · obtain ⟨e, h'⟩ := crsM_zero h hc hl
        have hp := h.zero hc hl
        match f, hf with
        | 0, hf => omega
        | f + 1, hf =>
          have ih := crsM_mem dx dy f (p + 1) q (by omega) h' i k
          rw [e, List.mem_cons, ih, Prod.mk.injEq]
          omega
    · rw [crsM_end hc]
      simp
      omega
theorem CrOk.start (dx dy : Nat) : CrOk dx dy 1 1 := ⟨by omega, by omega, by omega, by omega⟩
/-- What a line meets: just the steps between its ends, along both axes. -/
theorem mts_mem {g : List Int} {wd : Int} {a b : Pl} (x : Mt) : x ∈ mts g wd a b ↔ ∃ i k : Nat, ((i = 0 ∧ 1 ≤ k ∧ k < (dist a.1 b.1).toNat) ∨ (i = 1 ∧ 1 ≤ k ∧ k < (dist a.2 b.2).toNat)) ∧ x = mkM g wd a b (i, k) := by
  unfold mts
  rw [List.mem_map]
  constructor
  · rintro ⟨⟨i, k⟩, h, rfl⟩
    exact ⟨i, k, (crsM_mem _ _ _ _ _ (Nat.le_refl _) (CrOk.start _ _) i k).1 h, rfl⟩
  · rintro ⟨i, k, h, rfl⟩
    exact ⟨(i, k), (crsM_mem _ _ _ _ _ (Nat.le_refl _) (CrOk.start _ _) i k).2 h, rfl⟩
theorem mts_bd {wd hg : Int} {g : List Int} {a b : Pl} (hm : vmB wd hg g = true) (ha : onB wd hg a = true) (hb : onB wd hg b = true) {x : Mt} (hx : x ∈ mts g wd a b) : (x.ax = 0 ∨ x.ax = 1) ∧ 1 ≤ x.k ∧ x.k < x.n ∧ x.n ≤ 48 ∧ -1000000 ≤ x.g ∧ x.g ≤ 1000000 := by
  obtain ⟨i, k, h, rfl⟩ := (mts_mem x).1 hx
  obtain ⟨a1, a2, a3, a4⟩ := onB_ok ha
  obtain ⟨b1, b2, b3, b4⟩ := onB_ok hb
  obtain ⟨v1, v2, v3, v4, _, _⟩ := vmB_ok hm
  have d1 := dist_bd (a := a.1) (b := b.1) (by omega) (by omega)
  have d2 := dist_bd (a := a.2) (b := b.2) (by omega) (by omega)
  have hn : 1 ≤ (k : Int) ∧ (k : Int) < axN a b i ∧ axN a b i ≤ 48 := by
    unfold axN
    rcases h with ⟨rfl, h1, h2⟩ | ⟨rfl, h1, h2⟩
    · simp only [if_true]; omega
    · simp only [if_neg (show ¬ (1 = 0) by decide)]; omega
  have hk : (0 : Int) ≤ k ∧ (k : Int) ≤ axN a b i := by omega
  have hn1 : 1 ≤ axN a b i := by omega
  obtain ⟨c1, c2⟩ := atP_bd (n := axN a b i) (k := k) (f := a.1) (t := b.1) (m := wd) hk.1 hk.2 hn1 (by omega) (by omega)
  obtain ⟨c3, c4⟩ := atP_bd (n := axN a b i) (k := k) (f := a.2) (t := b.2) (m := hg) hk.1 hk.2 hn1 (by omega) (by omega)
  obtain ⟨e1, e2, e3, e4⟩ := div_bd hn1 c1 c2
  obtain ⟨e5, e6, e7, e8⟩ := div_bd hn1 c3 c4
  have hlo := hAt_bd hm (onB_mk (p := loP (axN a b i) k a b) ⟨e1, e2, e5, e6⟩)
  have hhi := hAt_bd hm (onB_mk (p := hiP (axN a b i) k a b) ⟨e3, e4, e7, e8⟩)
  have q1 : 0 ≤ beyP (axN a b i) k a b ∧ beyP (axN a b i) k a b ≤ 96 := by
    have := Int.emod_nonneg (atP (axN a b i) k a.1 b.1) (by omega : axN a b i ≠ 0)
    have := Int.emod_nonneg (atP (axN a b i) k a.2 b.2) (by omega : axN a b i ≠ 0)
    have := Int.emod_lt_of_pos (atP (axN a b i) k a.1 b.1) (by omega : 0 < axN a b i)
    have := Int.emod_lt_of_pos (atP (axN a b i) k a.2 b.2) (by omega : 0 < axN a b i)
    unfold beyP
    omega
  refine ⟨by show ((i : Int) = 0 ∨ (i : Int) = 1); omega, hn.1, hn.2.1, hn.2.2, ?_⟩
  show -1000000 ≤ grP g wd (axN a b i) k a b ∧ grP g wd (axN a b i) k a b ≤ 1000000
  unfold grP
  generalize beyP (axN a b i) k a b = q at q1 ⊢
  generalize hAt g wd (loP (axN a b i) k a b) = X at hlo ⊢
  generalize hAt g wd (hiP (axN a b i) k a b) = Y at hhi ⊢
  generalize axN a b i = n at hn ⊢
  have p2 : 0 ≤ q * Y ∧ q * Y ≤ 96 * 4000 := ⟨Int.mul_nonneg q1.1 hhi.1, Int.mul_le_mul q1.2 hhi.2 hhi.1 (by omega)⟩
  rcases Int.le_total 0 (n - q) with h | h
  · have p3 := Int.mul_nonneg h hlo.1
    have p4 := Int.mul_le_mul (by omega : n - q ≤ 48) hlo.2 hlo.1 (by omega)
    omega
  · have p3 := Int.mul_nonneg (by omega : 0 ≤ q - n) hlo.1
    have p4 := Int.mul_le_mul (by omega : q - n ≤ 96) hlo.2 hlo.1 (by omega)
    have h3 : (q - n) * X = -((n - q) * X) := by rw [← Int.neg_mul]; congr 1; omega
    omega
/-- What the iterator of blocks reads. -/
structure BkI (n0 M A B F T : Nat) (wd hg : Int) (o : Value) (g : List Int) (a b : Pl) (u v : Int) (W : World) : Prop where
  st : BkSt M A B F T wd hg o a b u v W
  row : GRow n0 W o g
theorem BkI.below {n0 M A B F T : Nat} {wd hg : Int} {o : Value} {g : List Int} {a b : Pl} {u v : Int} {X Y : World} (h : BkI n0 M A B F T wd hg o g a b u v X) (k : Below X.heap.size X Y) : BkI n0 M A B F T wd hg o g a b u v Y :=
  ⟨h.st.kp (KpP.of_below k), h.row.keep k.size fun i C t fr hi _ => k.block i (Array.getElem?_eq_some_iff.1 hi).1⟩

set_option maxRecDepth 100000 in
set_option maxHeartbeats 8000000 in
theorem blocks1_seq (n n0 M A B F T : Nat) (wd hg : Int) (o : Value) (g : List Int) (a b : Pl) (u v : Int) (hm : vmB wd hg g = true) (ha : onB wd hg a = true) (hb : onB wd hg b = true) (hu : 0 ≤ u ∧ u ≤ 4200) (hv : 0 ≤ v ∧ v ≤ 4200) :
    SeqN Try.prog n 77 #[.pointer (some ⟨M, 0, none⟩), .pointer (some ⟨A, 0, none⟩), .pointer (some ⟨B, 0, none⟩), .pointer (some ⟨F, 0, none⟩), .pointer (some ⟨T, 0, none⟩)] (fun x : Int × Int => #[.agg #[.int .i64 x.1, .int .i64 x.2]]) 72 (KpP (fun _ _ => True)) (blk g wd a b u v) (BkI n0 M A B F T wd hg o g a b u v) := by
  rintro y J Jx W hSt hyl hJ hJx hY h0
  have HSt := Lib.hid hSt; have HJ := Lib.hid hJ; have HJx := Lib.hid hJx; have HY := Lib.hid hY
  clear hJ hJx hY
  have hbl : M < W.heap.size ∧ A < W.heap.size ∧ B < W.heap.size ∧ F < W.heap.size ∧ T < W.heap.size ∧ n0 ≤ W.heap.size := by
    obtain ⟨_, _, _, _, _, _, _, _, hn, _⟩ := hSt.row
    exact ⟨(Array.getElem?_eq_some_iff.1 hSt.st.m).1, (Array.getElem?_eq_some_iff.1 hSt.st.a).1, (Array.getElem?_eq_some_iff.1 hSt.st.b).1, (Array.getElem?_eq_some_iff.1 hSt.st.f).1, (Array.getElem?_eq_some_iff.1 hSt.st.t).1, hn⟩
  have m0 := cellH hSt.st.m 0
  have m1 := cellH hSt.st.m 1
  have m2 := cellH hSt.st.m 2
  have a0 := cellH hSt.st.a 0
  have a1 := cellH hSt.st.a 1
  have b0 := cellH hSt.st.b 0
  have b1 := cellH hSt.st.b 1
  simp at m0 m1 m2 a0 a1 b0 b1
  have hMn : M ≠ W.heap.size := by omega
  have hAn : A ≠ W.heap.size := by omega
  have hBn : B ≠ W.heap.size := by omega
  clear hSt
  refine callsIn_of_wp_marks Try.func77 rfl trivial ?_ rfl
  simp only [Try.ntmps77, List.size_toArray, List.length_cons, List.length_nil, Nat.reduceAdd, Nat.reduceSub, Array.replicate_succ, Array.replicate_zero, List.push_toArray, List.append_toArray, List.nil_append, List.cons_append]
  refine wpIn_wide.2 ?_
  have HCR := Lib.hid (fun w' => crossings_any wd hg o a b w')
  unfold mpV plV at HCR
  have ha0 := onB_ok ha
  have hb0 := onB_ok hb
  have hm0 := vmB_ok hm
  have hbw : Below W.heap.size W (W.alloc (.cells #[.func (.yield y) #[] #[]] 134)) := (Below.refl _ W).alloc (Nat.le_refl _) _
  have HBW := Lib.hid hbw
  have HYB : Hid ((W.alloc (.cells #[.func (.yield y) #[] #[]] 134)).heap[W.heap.size]? = some (.cells #[.func (.yield y) #[] #[]] 134 (0, 0))) := Lib.hid (heap_alloc_new _ _)
  have HC1 := Lib.hid (HCR.out (W.alloc (.cells #[.func (.yield y) #[] #[]] 134)) (by omega) (by omega))
  clear hbw ha0 hb0 hm0 HCR
  go_wp2_with fail
  refine HC1.out.mono ?_
  rintro e w1 ⟨X, M2, F2, T2, rfl, hb1, hst1⟩
  have HB1 := Lib.hid (HBW.out.trans (hb1.mono HBW.out.size))
  have HSZ : Hid (W.heap.size < w1.heap.size) := Lib.hid (by have := hb1.size; simp at this; omega)
  have HYB1 : Hid (w1.heap[W.heap.size]? = some (.cells #[.func (.yield y) #[] #[]] 134 (0, 0))) := Lib.hid ((hb1.block _ (by simp)).trans HYB.out)
  have HI1 : Hid (CrI n0 X M2 F2 T2 wd hg o g a b w1) := Lib.hid ⟨hst1, HSt.out.row.keep HB1.out.size (fun k C t fr hk hn => HB1.out.block k (by omega))⟩
  have HS1 : Hid (BkSt M A B F T wd hg o a b u v w1) := Lib.hid ⟨(HB1.out.block _ hbl.1).trans HSt.out.st.m, (HB1.out.block _ hbl.2.1).trans HSt.out.st.a, (HB1.out.block _ hbl.2.2.1).trans HSt.out.st.b, (HB1.out.block _ hbl.2.2.2.1).trans HSt.out.st.f, (HB1.out.block _ hbl.2.2.2.2.1).trans HSt.out.st.t⟩
  have HJ1 := Lib.hid (HJ.out _ _ _ h0 (OwnTo.of_below HB1.out (Nat.le_refl _)))
  clear hb1 hst1 h0 m0 m1 m2 a0 a1 b0 b1
  unfold crV
  go_wp2_with fail
  refine wpIn_wide.1 (?_ : Code.wpIn Fence.wide n _ _ _ _ _)
  refine rangeN (n := n) (gf := 73) (lb := #[.pointer (some ⟨X, 0, none⟩), .pointer (some ⟨M2, 0, none⟩), .pointer (some ⟨F2, 0, none⟩), .pointer (some ⟨T2, 0, none⟩)]) rfl (enters_of Try.func73 (by kernel_rfl) rfl)
    (crossings1_seq (n - 1) n0 X M2 F2 T2 wd hg o g a b hm ha hb) ?st (fun A B h => KpP.of_below h) (fun _ _ _ h k => h.trans k) (fun Y l ob ob' _ h hc _ => KpP.putObj h hc) (fun _ => rfl)
    (fun pre Y => J ((pre.filter (overB u v)).map crO) Y ∧ W.heap.size ≤ Y.heap.size ∧ BkSt M A B F T wd hg o a b u v Y ∧ Y.heap[W.heap.size]? = some (.cells #[.func (.yield y) #[] #[]] 134 (0, 0)))
    (fun c pre Y => c = .ret ∧ Jx ((pre.filter (overB u v)).map crO) Y ∧ W.heap.size ≤ Y.heap.size ∧ (pre.filter (overB u v)).map crO <+: blk g wd a b u v) ?i ?ix ?ii ?iix ?h0
    (fun x a' Y => ∃ p, a' = { tmps := #[.func (.yield y) #[] #[], .pointer (some ⟨M, 0, none⟩), .pointer (some ⟨A, 0, none⟩), .pointer (some ⟨B, 0, none⟩), .pointer (some ⟨F, 0, none⟩), .pointer (some ⟨T, 0, none⟩), .pointer (some ⟨W.heap.size, 0, none⟩), .pointer (some ⟨p, 0, none⟩), .agg #[.int .i64 wd, .int .i64 hg, o], .agg #[.int .i64 a.1, .int .i64 a.2], .agg #[.int .i64 b.1, .int .i64 b.2], .func (.func 73) #[] #[.pointer (some ⟨X, 0, none⟩), .pointer (some ⟨M2, 0, none⟩), .pointer (some ⟨F2, 0, none⟩), .pointer (some ⟨T2, 0, none⟩)], .agg #[.int .i64 x.ax, .int .i64 x.k, .int .i64 x.n, .int .i64 x.g], undef, undef, undef, undef, undef, undef, undef, undef, undef, undef, undef, undef, undef, undef], defers := [] } ∧ Y.heap[p]? = some (.cells #[.int .i64 x.ax, .int .i64 x.k, .int .i64 x.n, .int .i64 x.g] 102 (0, 0))) ?hv ?assign ?body ?done ?stop
  case st => exact fun ob ob' => HI1.out.below (((Below.refl _ w1).alloc (Nat.le_refl _) ob).alloc (by simp) ob')
  case i => exact fun s A B row h hg hr => ⟨HJ.out _ _ _ h.1 (OwnTo.of_grown hg h.2.1 (fun r e => by obtain ⟨h1, h2⟩ := hr r e; exact ⟨by have := HSZ.out; omega, h2⟩)), Nat.le_trans h.2.1 hg.size, h.2.2.1.grown hbl hg (fun r e => by have := (hr r e).1; have := HSZ.out; omega) h.2.1, (hg.block _ (Array.getElem?_eq_some_iff.1 h.2.2.2).1 (fun e => by have := (hr _ e.symm).1; have := HSZ.out; omega)).trans h.2.2.2⟩
  case ix => exact fun c s A B row h hg hr => ⟨h.1, HJx.out _ _ _ h.2.1 (OwnTo.of_grown hg h.2.2.1 (fun r e => by obtain ⟨h1, h2⟩ := hr r e; exact ⟨by have := HSZ.out; omega, h2⟩)), Nat.le_trans h.2.2.1 hg.size, h.2.2.2⟩
  case ii => exact fun s A B h k => ⟨HJ.out _ _ _ h.1 (k.mono (by have := HSZ.out; omega)), Nat.le_trans h.2.1 k.size, h.2.2.1.own hbl k (by have := HSZ.out; omega), (k.low _ (by have := HSZ.out; omega)).trans h.2.2.2⟩
  case iix => exact fun c s A B h k => ⟨h.1, HJx.out _ _ _ h.2.1 (k.mono (by have := HSZ.out; omega)), Nat.le_trans h.2.2.1 k.size, h.2.2.2⟩
  case h0 => exact ⟨HJ1.out, HB1.out.size, HS1.out, HYB1.out⟩
  case hv =>
    rintro x a' _ A B row ⟨p, h1, h2⟩ hg hr
    refine ⟨p, h1, (hg.block p (Array.getElem?_eq_some_iff.1 h2).1 (fun q => ?_)).trans h2⟩
    obtain ⟨_, ob, ho, hoc⟩ := hr p q.symm
    rw [h2] at ho; cases ho; cases hoc
  case assign =>
    intro l' pre x Y K hI hK
    unfold mtV
    gi_wp2
    exact hK _ _ ((Below.refl _ Y).alloc (Nat.le_refl _) _) ⟨Y.heap.size, rfl, heap_alloc_new _ _⟩
  case body =>
    rintro l' pre x a' Y ⟨hJp, hYn, hbs, hyb⟩ ⟨p, rfl, hp⟩ hlt
    have hxm : x ∈ mts g wd a b := hlt.subset (by simp)
    obtain ⟨_, k1, k2, k3, _⟩ := mts_bd hm ha hb hxm
    have hfp : ((pre ++ [x]).filter (overB u v)).map crO <+: blk g wd a b u v := (hlt.filter _).map _
    have CP : Hid (∀ w', Below Y.heap.size Y w' → Calls Try.prog 78 #[.agg #[.int .i64 x.ax, .int .i64 x.k, .int .i64 x.n, .int .i64 x.g], .int .i64 u, .int .i64 v] w' fun e w'' => e = .returned (.int .i64 (partI x u v)) ∧ Below Y.heap.size Y w'') := Lib.hid (fun w' h =>
      (part_any x u v w' ⟨by omega, by omega, k3⟩ ⟨hu.1, by omega⟩ ⟨hv.1, by omega⟩).mono fun e w'' ⟨he, hh⟩ => ⟨he, h.trans (hh.mono h.size)⟩)
    have K0 : Hid (∀ W', Below Y.heap.size Y W' → W'.cell? ⟨p, 0, none⟩ = some (.int .i64 x.ax) ∧ W'.cell? ⟨p, 1, none⟩ = some (.int .i64 x.k) ∧ W'.cell? ⟨p, 2, none⟩ = some (.int .i64 x.n) ∧ W'.cell? ⟨p, 3, none⟩ = some (.int .i64 x.g) ∧
        W'.cell? ⟨F, 0, none⟩ = some (.int .i64 u) ∧ W'.cell? ⟨T, 0, none⟩ = some (.int .i64 v) ∧ W'.cell? ⟨W.heap.size, 0, none⟩ = some (.func (.yield y) #[] #[])) := Lib.hid (fun W' h => by
      have hp' := (h.block _ (Array.getElem?_eq_some_iff.1 hp).1).trans hp
      have hF' := (h.block _ (Array.getElem?_eq_some_iff.1 hbs.f).1).trans hbs.f
      have hT' := (h.block _ (Array.getElem?_eq_some_iff.1 hbs.t).1).trans hbs.t
      have hY' := (h.block _ (Array.getElem?_eq_some_iff.1 hyb).1).trans hyb
      exact ⟨cellH hp' 0, cellH hp' 1, cellH hp' 2, cellH hp' 3, cellH hF' 0, cellH hT' 0, cellH hY' 0⟩)
    have hov : overB u v x = decide (partI x u v < x.g) := rfl
    have HBS := Lib.hid hbs
    have HYY := Lib.hid hyb
    obtain ⟨Pv, hPv⟩ : ∃ q, partI x u v = q := ⟨_, rfl⟩
    rw [hPv] at CP hov
    clear hbs hyb hp hxm k1 k2 k3 hPv hlt
    obtain ⟨pf, hpf⟩ : ∃ l, (pre.filter (overB u v)).map crO = l := ⟨_, rfl⟩
    by_cases hq : Pv < x.g
    · have hnew : ((pre ++ [x]).filter (overB u v)).map crO = pf ++ [(x.ax, x.k)] := by
        rw [List.filter_append, List.map_append, hpf]
        simp [hov, hq, crO]
      rw [hnew] at hfp
      rw [hpf] at hJp
      have HNEW := Lib.hid hnew
      have HPF := Lib.hid hfp
      clear hnew hpf hov hfp
      gi_wp2
      refine wpIn_region_turn (lax_round l') 11 (fun _ w' => Below Y.heap.size Y w') (by kernel_rfl) (by kernel_rfl) (by kernel_rfl) ((Below.refl _ Y).drew) ?_
      simp only [List.take_succ_cons, List.take_zero, List.drop_succ_cons, List.drop_zero]
      iterate 11
        (first
          | (apply turnC_step (by rfl); (intro w' hw'; go_simp; exact CP.out w' hw'))
          | (apply turnC_step (by rfl); (intro w' hw'; obtain ⟨q0, q1, q2, q3, q4, q5, q6⟩ := K0.out w' hw'; go_simp; first | exact ⟨hw', rfl⟩ | exact rfl)))
        simp only [Act.put, List.setIfInBounds_toArray, List.set_cons_succ, List.set_cons_zero]
      intro listed w9 _ hw9
      have hJ9 := HJ.out _ _ _ hJp (OwnTo.of_below hw9 hYn)
      obtain ⟨fn, tmps, assign, body, hy, hR⟩ := HY.out pf (x.ax, x.k) w9 hJ9 HPF.out
      have HR := Lib.hid hR
      have HW9 := Lib.hid hw9
      clear hJ9 hR hJp K0 CP hw9
      gi_wp2
      refine ⟨(fun h => by cases h), ?_⟩
      refine (roundIn_any HR.out l').mono ?_
      have hws := HSZ.out
      rintro e3 W3 (⟨rfl, ⟨hJ3, hk3⟩, hkf3⟩ | ⟨rfl, hJx3, hkf3⟩)
      · have HF3 := Lib.hid ((below_keeps (B := w1.heap.size) HW9.out).trans (keeps_mono hkf3 (Nat.le_of_lt hws)))
        have HK3 := Lib.hid ((KpP.of_below (p := fun _ _ => True) HW9.out).trans hk3)
        have HJ3 := Lib.hid hJ3
        clear hJ3 hk3 hkf3
        gi_wp2
        exact ⟨HF3.out, HK3.out.mono (fun _ _ _ => trivial), by rw [HNEW.out]; exact HJ3.out, Nat.le_trans hYn HK3.out.size, HBS.out.kp HK3.out, (HK3.out.cells _ _ _ _ HYY.out trivial).trans HYY.out⟩
      · have HF3 := Lib.hid ((below_keeps (B := w1.heap.size) HW9.out).trans (keeps_mono hkf3 (Nat.le_of_lt hws)))
        have HJ3 := Lib.hid hJx3
        clear hJx3 hkf3
        gi_wp2
        exact ⟨HF3.out, rfl, by rw [HNEW.out]; exact HJ3.out, Nat.le_trans hYn HF3.out.size, by rw [HNEW.out]; exact HPF.out⟩
    · have gq : decide (Pv < x.g) = false := decide_eq_false hq
      have hnew : ((pre ++ [x]).filter (overB u v)).map crO = pf := by
        rw [List.filter_append, List.map_append, hpf]
        simp [hov, gq]
      rw [hpf] at hJp
      have HNEW := Lib.hid hnew
      clear hnew hpf hov hfp hq
      gi_wp2
      refine wpIn_region_turn (lax_round l') 13 (fun _ w' => Below Y.heap.size Y w') (by kernel_rfl) (by kernel_rfl) (by kernel_rfl) ((Below.refl _ Y).drew) ?_
      simp only [List.take_succ_cons, List.take_zero, List.drop_succ_cons, List.drop_zero]
      iterate 13
        (first
          | (apply turnC_step (by rfl); (intro w' hw'; go_simp; exact CP.out w' hw'))
          | (apply turnC_step (by rfl); (intro w' hw'; obtain ⟨q0, q1, q2, q3, q4, q5, q6⟩ := K0.out w' hw'; go_simp; first | exact ⟨hw', rfl⟩ | exact rfl))
          | (apply turnC_skip (by rfl)))
        simp only [Act.put, List.setIfInBounds_toArray, List.set_cons_succ, List.set_cons_zero]
      intro listed w9 _ hw9
      have HW9 := Lib.hid hw9
      have HJ9 := Lib.hid (HJ.out _ _ _ hJp (OwnTo.of_below hw9 hYn))
      clear K0 CP hw9 hJp
      gi_wp2
      exact ⟨below_keeps HW9.out, KpP.of_below HW9.out, by rw [HNEW.out]; exact HJ9.out, Nat.le_trans hYn HW9.out.size, HBS.out.kp (KpP.of_below HW9.out), (HW9.out.block _ (Array.getElem?_eq_some_iff.1 HYY.out).1).trans HYY.out⟩
  case done =>
    rintro D Y hD ⟨hJp, hYn, hbs, hyb⟩ hK
    have HJP := Lib.hid hJp
    have HK := Lib.hid hK
    clear hJp hK hbs hyb
    simp only [Exit.inBlock, Exit.then]
    try rw [Exit.noGoto_ret]
    exact leaves_marks5 (F := Fence.wide) (n := n) W.heap.size [D] _ (by simp) (fun D' hD' => by
      obtain rfl : D' = D := by simpa using hD'
      exact ⟨by have := HSZ.out; omega, HK.out⟩) (fun W' hk hb' => ⟨_, results_none rfl _ _ _, ⟨_, rfl⟩, .inl (HJ.out _ _ _ HJP.out (OwnTo.of_leaves hk hb'))⟩)
  case stop =>
    rintro D c pre Y hD hpre ⟨rfl, hJx', hYn, hpf⟩ hK
    have HJP := Lib.hid hJx'
    have HK := Lib.hid hK
    have HPF := Lib.hid hpf
    clear hJx' hK hpf
    gi_wp2
    try rw [Exit.noGoto_ret]
    exact leaves_marks5 (F := Fence.wide) (n := n) W.heap.size [D] _ (by simp) (fun D' hD' => by
      obtain rfl : D' = D := by simpa using hD'
      exact ⟨by have := HSZ.out; omega, HK.out⟩) (fun W' hk hb' => ⟨_, results_none rfl _ _ _, ⟨_, rfl⟩, .inr ⟨_, HPF.out, HJx.out _ _ _ HJP.out (OwnTo.of_leaves hk hb')⟩⟩)
end Go.Proofs.Ytnacgogcbbpjmaa
