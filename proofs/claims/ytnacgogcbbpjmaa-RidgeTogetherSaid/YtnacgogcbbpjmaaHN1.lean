/- The reference's rising: a list of numbers in increasing order. -/
import Derived.Test.YtnacgogcbbpjmaaHC1
import Derived.Test.YtnacgogcbbpjmaaHJ0
import Derived.Test.YtnacgogcbbpjmaaHD3
import Derived.Test.YtnacgogcbbpjmaaHM5
import Derived.Test.YtnacgogcbbpjmaaHC2
import Derived.Test.YtnacgogcbbpjmaaHL3
import Derived.ChangeKeysEq
set_option linter.unusedVariables false
set_option linter.unusedSimpArgs false
namespace Go.Proofs.Ytnacgogcbbpjmaa
open Go Go.RowKit

/-- A number laid into a list. -/
def insK (out : List Int) (x : Int) (k : Nat) : List Int := out.take k ++ x :: out.drop k
theorem insK_perm (out : List Int) (x : Int) (k : Nat) : (insK out x k).Perm (x :: out) := by
  unfold insK
  have h := List.perm_middle (a := x) (l₁ := out.take k) (l₂ := out.drop k)
  rwa [List.take_append_drop] at h
theorem ge_at {out : List Int} (hs : out.Pairwise (· ≤ ·)) {i j : Nat} (hij : i ≤ j) (hj : j < out.length) : out.getD i 0 ≤ out.getD j 0 := by
  rcases Nat.lt_or_ge i j with h | h
  · rw [List.getD_eq_getElem?_getD, List.getD_eq_getElem?_getD, List.getElem?_eq_getElem (by omega), List.getElem?_eq_getElem hj]
    exact List.pairwise_iff_getElem.1 hs i j (by omega) hj h
  · obtain rfl : i = j := by omega
    exact Int.le_refl _
theorem insK_sorted {out : List Int} {x : Int} {k : Nat} (hs : out.Pairwise (· ≤ ·)) (hk : k ≤ out.length) (h1 : ∀ m, k ≤ m → m < out.length → x < out.getD m 0) (h2 : k = 0 ∨ out.getD (k - 1) 0 ≤ x) : (insK out x k).Pairwise (· ≤ ·) := by
  unfold insK
  have hd : ∀ b ∈ out.drop k, x ≤ b := fun b hb => by
    obtain ⟨i, hi, rfl⟩ := List.getElem_of_mem hb
    rw [List.getElem_drop]
    have hl : k + i < out.length := by rw [List.length_drop] at hi; omega
    have := h1 (k + i) (by omega) hl
    rw [List.getD_eq_getElem?_getD, List.getElem?_eq_getElem hl] at this
    exact Int.le_of_lt this
  have ht : ∀ a ∈ out.take k, a ≤ x := fun a ha => by
    obtain ⟨i, hi, rfl⟩ := List.getElem_of_mem ha
    rw [List.getElem_take]
    have hl : i < k := by rw [List.length_take] at hi; omega
    rcases h2 with h2 | h2
    · omega
    · have h3 := ge_at hs (show i ≤ k - 1 by omega) (by omega)
      have h4 : out.getD i 0 = out[i]'(by omega) := by rw [List.getD_eq_getElem?_getD, List.getElem?_eq_getElem (by omega)]; rfl
      rw [h4] at h3
      omega
  have hp := hs
  rw [← List.take_append_drop k out, List.pairwise_append] at hp
  rw [List.pairwise_append, List.pairwise_cons]
  refine ⟨hp.1, ⟨hd, hp.2.1⟩, fun a ha b hb => ?_⟩
  rcases List.mem_cons.1 hb with rfl | hb
  · exact ht a ha
  · exact hp.2.2 a ha b hb
theorem own_ints {w : World} {base : Nat} {v : Value} {l : List Int} (h : w.ownsRow base 3 1 v l.length (l.map (Value.int .i64 ·))) :
    (v = .slice none 0 0 ∧ l = []) ∨ ∃ g c, v = .slice (some ⟨g, 0, none⟩) l.length c ∧ l.length ≤ c ∧ base ≤ g ∧ g < w.heap.size ∧ ∀ i, i < l.length → w.cell? ⟨g, i, none⟩ = some (.int .i64 (l.getD i 0)) := by
  rcases h.2 with ⟨h1, h2⟩ | ⟨nb, nc, cur, e1, e2, e3, e4, e5, e6, e7⟩
  · exact .inl ⟨h1, List.eq_nil_of_length_eq_zero h2⟩
  · refine .inr ⟨nb, nc, e1, by omega, e2, (Array.getElem?_eq_some_iff.1 e3).1, fun i hi => ?_⟩
    have h7 : cur.toList.take l.length = l.map (Value.int .i64 ·) := by simpa using e7
    have g1 : (l.map (Value.int .i64 ·))[i]? = some (.int .i64 (l.getD i 0)) := by
      rw [List.getElem?_map, List.getElem?_eq_getElem hi, List.getD_eq_getElem?_getD, List.getElem?_eq_getElem hi]; rfl
    rw [← h7, List.getElem?_take_of_lt hi, Array.getElem?_toList] at g1
    rw [cellH e3]; exact g1
theorem own_pos {w : World} {base : Nat} {v : Value} {n : Nat} {xs : List Value} (h : w.ownsRow base 3 1 v n xs) (hn : 0 < n) : ∃ g c, v = .slice (some ⟨g, 0, none⟩) n c ∧ n ≤ c ∧ base ≤ g := by
  rcases h.2 with ⟨_, h2⟩ | ⟨nb, nc, cur, e1, e2, e3, e4, e5, e6, e7⟩
  · omega
  · exact ⟨nb, nc, e1, by omega, e2⟩
end Go.Proofs.Ytnacgogcbbpjmaa

/-! The reference's Links. -/
set_option linter.unusedVariables false
set_option linter.unusedSimpArgs false
namespace Go.Proofs.Ytnacgogcbbpjmaa
open Go Go.RowKit
attribute [local go_sem] Oper.semAt_some

theorem ord_exists {T : List Tw} (hk : (T.map Tw.id).Nodup) : ∃ L, Ord L T := by
  refine ⟨T.mergeSort (fun s t => decide (s.id ≤ t.id)), List.mergeSort_perm _ _, ?_⟩
  have h1 := List.pairwise_mergeSort (le := fun s t : Tw => decide (s.id ≤ t.id)) (fun a b c h1 h2 => by simp at *; omega) (fun a b => by simp; omega) T
  have h2 : ((T.mergeSort (fun s t => decide (s.id ≤ t.id))).map Tw.id).Nodup := ((List.mergeSort_perm T (fun s t => decide (s.id ≤ t.id))).map Tw.id).nodup_iff.2 hk
  rw [List.nodup_iff_pairwise_ne, List.pairwise_map] at h2
  exact (h1.and h2).imp fun {s t} h => by have h3 := h.1; have h4 := h.2; simp at h3; omega
theorem rise_ids {T L : List Tw} {out : List Int} (hp : out.Perm (T.map Tw.id)) (hs : out.Pairwise (· ≤ ·)) (hL : Ord L T) (hk : (T.map Tw.id).Nodup) : out = L.map Tw.id := by
  have hn : out.Nodup := hp.nodup_iff.2 hk
  rw [List.nodup_iff_pairwise_ne] at hn
  have h1 : out.Pairwise (· < ·) := (hs.and hn).imp fun {s t} h => by have h3 := h.1; have h4 := h.2; omega
  have h2 : (L.map Tw.id).Pairwise (· < ·) := by rw [List.pairwise_map]; exact hL.2
  exact pw_ext (fun x y h => by omega) h1 h2 (fun x => by rw [hp.mem_iff, (hL.1.map Tw.id).mem_iff])
theorem ord_unique {T L M : List Tw} (hL : Ord L T) (hM : Ord M T) : L = M :=
  pw_ext (fun x y h => by omega) hL.2 hM.2 (fun x => by rw [hL.1.mem_iff, hM.1.mem_iff])
theorem twI_mem {T : List Tw} {t : Tw} (ht : t ∈ T) (hk : (T.map Tw.id).Nodup) : ∃ n : Nat, twI T t.id = n ∧ n < T.length ∧ T.getD n .nil = t := by
  rcases twI_cases T t.id with ⟨k, h1, h2, h3, h4⟩ | ⟨h1, _⟩
  · refine ⟨k, h4, h1, ?_⟩
    obtain ⟨j, hj, rfl⟩ := List.getElem_of_mem ht
    rw [getD_tw h1] at h2 ⊢
    have := (List.nodup_iff_pairwise_ne.1 hk)
    have e : k = j := by
      refine (List.getElem_inj (h₀ := by simpa using h1) (h₁ := by simpa using hj) hk).1 ?_
      simpa using h2
    subst e; rfl
  · obtain ⟨j, hj, rfl⟩ := List.getElem_of_mem ht
    exact absurd (by rw [getD_tw hj]) (h1 j hj)
/-- The worlds in the head of a region in which one operation makes a cell. -/
def oneIn (j : Nat) (W0 : World) (ob : Obj) (listed : Array Bool) (w : World) : Prop :=
  Below W0.heap.size W0 w ∧ (listed.getD j false = false → w.heap.size = W0.heap.size) ∧ (listed.getD j false = true → w.heap[W0.heap.size]? = some ob ∧ W0.heap.size < w.heap.size)
theorem turnS_step {P : Program} {ops : Array Oper} {md : Region.Mode} {n j : Nat} {W0 : World} {ob : Obj} {Q : Act → Prop} {o : Oper} {rest : List Oper} {k : Nat} {a : Act} {v : Value} (hkj : k ≠ j) (hw : Region.wanted o (yielded ops a.tmps) = true)
    (h1 : ∀ w', Below W0.heap.size W0 w' → ∀ C' : World → Prop, C' w' → TurnUpon P C' v ((execOp a.eval o).run P w')) (h2 : wpTurn P ops md n (oneIn j W0 ob) Q rest (k + 1) (a.put o.dst v)) :
    wpTurn P ops md n (oneIn j W0 ob) Q (o :: rest) k a :=
  ⟨v, .inl ⟨hw, fun listed w _ _ hC => h1 w hC.1 _ (by unfold oneIn at *; rw [getD_set_ne _ hkj]; exact hC)⟩, h2⟩
theorem turnS_alloc {P : Program} {ops : Array Oper} {md : Region.Mode} {n : Nat} {W0 : World} {ob : Obj} {Q : Act → Prop} {o : Oper} {rest : List Oper} {k : Nat} {a : Act} {v : Value} (hw : Region.wanted o (yielded ops a.tmps) = true)
    (h1 : ∀ w', w'.heap.size = W0.heap.size → Below W0.heap.size W0 w' → ∀ C' : World → Prop, C' (w'.alloc ob) → TurnUpon P C' v ((execOp a.eval o).run P w')) (h2 : wpTurn P ops md n (oneIn k W0 ob) Q rest (k + 1) (a.put o.dst v)) :
    wpTurn P ops md n (oneIn k W0 ob) Q (o :: rest) k a :=
  ⟨v, .inl ⟨hw, fun listed w inv hr hC => by
    have hu0 := (mem_ready.1 hr).1
    have hs := hC.2.1 (getD_both hu0)
    refine h1 w hs hC.1 _ ⟨hC.1.alloc hC.1.size ob, fun h => ?_, fun _ => ⟨?_, ?_⟩⟩
    · have hk : k < listed.size := Nat.lt_of_not_le fun h' => by simp [Array.getElem?_eq_none h'] at hu0
      simp [hk] at h
    · exact gAt w ob _ hs.symm
    · rw [← hs]; simp⟩, h2⟩
theorem two_at {w : World} {b : Nat} {x y : Value} {t : TypeId} {f : Nat × Nat} (h : w.heap[b]? = some (.cells #[x, y] t f)) (j : Nat) (u : Value) (hu : [x, y][j]? = some u) : w.cell? ((⟨b, 0, none⟩ : Addr).add j) = some u := by
  have e : (⟨b, 0, none⟩ : Addr).add j = ⟨b, j, none⟩ := by unfold Addr.add; split <;> simp_all
  rw [e, cellH h]
  simpa using hu
def LkA (w W1 : World) (wd hg ti tx ty th ui ux uy uh : Int) (oa ha : Option Addr) (gn oc tn tc hn hc ib io ic ln k jn ix iy tb tf : Nat) (u7 u10 u11 u22 u23 u24 u25 u26 u27 u28 u29 u30 u31 u32 u5 u39 u40 u47 u48 u49 u50 u51 u52 u53 u54 u55 u56 u57 u58 u59 u60 u61 u62 u63 u64 u65 u66 u67 u68 u69 u70 u71 u72 u73 u74 u75 u76 u77 u78 u79 u80 u81 u82 u83 u84 u85 u86 u87 u88 : Value) (listed : Array Bool) (a : Act) (w' : World) : Prop := ∃ (l0 l1 l2 l3 l4 l5 l6 l7 l8 l9 l10 l11 : Bool) (A : Nat), listed = #[l0, l1, l2, l3, l4, l5, l6, l7, l8, l9, l10, l11] ∧ a = { tmps := #[.agg #[.int .i64 wd, .int .i64 hg, .slice oa gn oc, .slice (some ⟨tb, tf, none⟩) tn tc, .slice ha hn hc], .pointer (some ⟨w.heap.size, 0, none⟩), .slice none 0 0, .int .i64 0, .int .i64 0, .slice (some ⟨ib, io, none⟩) ln ic, .int .i64 tn, u7, .int .i64 k, .int .i64 jn, pickIf l10 (.pointer (some ⟨A, 0, none⟩)) u10, u11, .agg #[.int .i64 wd, .int .i64 hg, .slice oa gn oc, .slice (some ⟨tb, tf, none⟩) tn tc, .slice ha hn hc], .int .i64 0, .int .i64 0, .bool false, undef, .int .i64 tn, .pointer (some ⟨w.heap.size, 3, none⟩), .slice (some ⟨tb, tf, none⟩) tn tc, .int .i64 tn, .bool false, u22, u23, u24, u25, u26, u27, u28, u29, u30, u31, u32, u5, .slice (some ⟨ib, io, none⟩) ln ic, .int .i64 k, .slice (some ⟨ib, io, none⟩) ln ic, .int .i64 ln, .bool true, u39, u40, .int .i64 k, .int .i64 ((k : Int) + 1), .int .i64 jn, .slice (some ⟨ib, io, none⟩) ln ic, .int .i64 ln, .bool true, u47, u48, pickIf l0 (.pointer (some ⟨w.heap.size, 3, none⟩)) u49, pickIf l1 (.slice (some ⟨tb, tf, none⟩) tn tc) u50, pickIf l2 (.agg #[.int .i64 wd, .int .i64 hg, .slice oa gn oc, .slice (some ⟨tb, tf, none⟩) tn tc, .slice ha hn hc]) u51, pickIf l3 (.slice (some ⟨ib, io, none⟩) ln ic) u52, pickIf l4 (.int .i64 k) u53, pickIf l5 (.pointer (some ⟨ib, io + k, none⟩)) u54, pickIf l6 (.int .i64 ti) u55, pickIf l7 (.int .i64 ix) u56, pickIf l8 (.pointer (some ⟨tb, tf + ix * 4, none⟩)) u57, pickIf l9 (.agg #[.int .i64 ti, .int .i64 tx, .int .i64 ty, .int .i64 th]) u58, u59, u60, u61, u62, u63, u64, u65, u66, u67, u68, u69, u70, u71, u72, u73, u74, u75, u76, u77, u78, u79, u80, u81, u82, u83, u84, u85, u86, u87, u88, undef], defers := [] } ∧ Below W1.heap.size W1 w' ∧ (l10 = true → W1.heap.size ≤ A ∧ w'.heap[A]? = some (.cells #[.int .i64 (if l11 = true then ti else 0), .int .i64 (if l11 = true then tx else 0), .int .i64 (if l11 = true then ty else 0), .int .i64 (if l11 = true then th else 0)] 48 (0, 0))) ∧ (l11 = true → l10 = true)
def LkB (w W1 : World) (wd hg ti tx ty th ui ux uy uh : Int) (oa ha : Option Addr) (gn oc tn tc hn hc ib io ic ln k jn ix iy tb tf A : Nat) (u7 u10 u11 u22 u23 u24 u25 u26 u27 u28 u29 u30 u31 u32 u5 u39 u40 u47 u48 u49 u50 u51 u52 u53 u54 u55 u56 u57 u58 u59 u60 u61 u62 u63 u64 u65 u66 u67 u68 u69 u70 u71 u72 u73 u74 u75 u76 u77 u78 u79 u80 u81 u82 u83 u84 u85 u86 u87 u88 : Value) (listed : Array Bool) (a : Act) (w' : World) : Prop := ∃ (l0 l1 l2 l3 l4 l5 l6 l7 l8 l9 l10 l11 : Bool) (B : Nat), listed = #[l0, l1, l2, l3, l4, l5, l6, l7, l8, l9, l10, l11] ∧ a = { tmps := #[.agg #[.int .i64 wd, .int .i64 hg, .slice oa gn oc, .slice (some ⟨tb, tf, none⟩) tn tc, .slice ha hn hc], .pointer (some ⟨w.heap.size, 0, none⟩), .slice none 0 0, .int .i64 0, .int .i64 0, .slice (some ⟨ib, io, none⟩) ln ic, .int .i64 tn, u7, .int .i64 k, .int .i64 jn, .pointer (some ⟨A, 0, none⟩), pickIf l10 (.pointer (some ⟨B, 0, none⟩)) u11, .agg #[.int .i64 wd, .int .i64 hg, .slice oa gn oc, .slice (some ⟨tb, tf, none⟩) tn tc, .slice ha hn hc], .int .i64 0, .int .i64 0, .bool false, undef, .int .i64 tn, .pointer (some ⟨w.heap.size, 3, none⟩), .slice (some ⟨tb, tf, none⟩) tn tc, .int .i64 tn, .bool false, u22, u23, u24, u25, u26, u27, u28, u29, u30, u31, u32, u5, .slice (some ⟨ib, io, none⟩) ln ic, .int .i64 k, .slice (some ⟨ib, io, none⟩) ln ic, .int .i64 ln, .bool true, u39, u40, .int .i64 k, .int .i64 ((k : Int) + 1), .int .i64 jn, .slice (some ⟨ib, io, none⟩) ln ic, .int .i64 ln, .bool true, u47, u48, .pointer (some ⟨w.heap.size, 3, none⟩), .slice (some ⟨tb, tf, none⟩) tn tc, .agg #[.int .i64 wd, .int .i64 hg, .slice oa gn oc, .slice (some ⟨tb, tf, none⟩) tn tc, .slice ha hn hc], .slice (some ⟨ib, io, none⟩) ln ic, .int .i64 k, .pointer (some ⟨ib, io + k, none⟩), .int .i64 ti, .int .i64 ix, .pointer (some ⟨tb, tf + ix * 4, none⟩), .agg #[.int .i64 ti, .int .i64 tx, .int .i64 ty, .int .i64 th], pickIf l0 (.pointer (some ⟨w.heap.size, 3, none⟩)) u59, pickIf l1 (.slice (some ⟨tb, tf, none⟩) tn tc) u60, pickIf l2 (.agg #[.int .i64 wd, .int .i64 hg, .slice oa gn oc, .slice (some ⟨tb, tf, none⟩) tn tc, .slice ha hn hc]) u61, pickIf l3 (.slice (some ⟨ib, io, none⟩) ln ic) u62, pickIf l4 (.int .i64 jn) u63, pickIf l5 (.pointer (some ⟨ib, io + jn, none⟩)) u64, pickIf l6 (.int .i64 ui) u65, pickIf l7 (.int .i64 iy) u66, pickIf l8 (.pointer (some ⟨tb, tf + iy * 4, none⟩)) u67, pickIf l9 (.agg #[.int .i64 ui, .int .i64 ux, .int .i64 uy, .int .i64 uh]) u68, u69, u70, u71, u72, u73, u74, u75, u76, u77, u78, u79, u80, u81, u82, u83, u84, u85, u86, u87, u88, undef], defers := [] } ∧ Below W1.heap.size W1 w' ∧ (l10 = true → W1.heap.size ≤ B ∧ w'.heap[B]? = some (.cells #[.int .i64 (if l11 = true then ui else 0), .int .i64 (if l11 = true then ux else 0), .int .i64 (if l11 = true then uy else 0), .int .i64 (if l11 = true then uh else 0)] 48 (0, 0))) ∧ (l11 = true → l10 = true)
end Go.Proofs.Ytnacgogcbbpjmaa

/-! RidgeLinks: Links answers as the reference does. -/
set_option linter.unusedVariables false
set_option linter.unusedSimpArgs false
namespace Go.Proofs.Ytnacgogcbbpjmaa
open Go Go.RowKit

theorem two_in (x y : Int) (w : World) : (Op.equalIn 10000 72 (.agg #[.int .i64 x, .int .i64 y]) (.agg #[.int .i64 x, .int .i64 y])).run Try.prog w = .ok true w := by
  obtain ⟨i0, hi0, hz0, hz1, hz2⟩ := info_parts info_in
  have hu : Try.prog.underlying 72 = some (.array 2 3) := by kernel_rfl
  have hui : Try.prog.underlying 3 = some (.int .i64) := by kernel_rfl
  have hc : Try.prog.cellsOf 3 = 1 := by kernel_rfl
  have p0 : (part 3 #[.int .i64 x, .int .i64 y] 0).run Try.prog w = .ok (.int .i64 x) w := by kernel_rfl
  have p1 : (part 3 #[.int .i64 x, .int .i64 y] 1).run Try.prog w = .ok (.int .i64 y) w := by kernel_rfl
  have e1 : ∀ z : Int, (Op.equalIn 9999 3 (.int .i64 z) (.int .i64 z)).run Try.prog w = .ok true w := fun z => by
    have h := run_equalIn_int (P := Try.prog) w 9998 3 .i64 .i64 z z hui
    simpa using h
  have h := run_equalIn_array (P := Try.prog) w 9999 #[.int .i64 x, .int .i64 y] #[.int .i64 x, .int .i64 y] hu hi0
  rw [show (10000 : Nat) = 9999 + 1 from rfl, h, hc, show List.range 2 = [0, 1] from rfl]
  simp only [Op.eqItems, Sem.run_bind, Nat.zero_mul, Nat.one_mul, p0, p1, e1, Result.andThen_ok, Bool.not_true, Bool.false_eq_true, if_false, Sem.run_pure]
theorem two_ne (x y : Int) (w : World) : (binOp .neq 72 (.agg #[.int .i64 x, .int .i64 y]) (.agg #[.int .i64 x, .int .i64 y])).run Try.prog w = .ok (.bool false) w := by
  rw [run_neq_struct, two_in]; rfl
theorem PlRow.of_pairs {w : World} {base : Nat} {v : Value} {l : List Pl} (h : w.ownsRow base 72 2 v l.length (l.flatMap encI2)) : PlRow w v l := by
  rcases h.2 with ⟨h1, h2⟩ | ⟨nb, nc, cur, e1, e2, e3, e4, e5, e6, e7⟩
  · have : l = [] := List.eq_nil_of_length_eq_zero h2
    subst this
    exact .inl ⟨none, 0, h1, rfl⟩
  · refine .inr ⟨nb, 0, nc, e1, by omega, (Array.getElem?_eq_some_iff.1 e3).1, fun i hi => ?_⟩
    have hl := flatP_len l
    obtain ⟨g1, g2⟩ := flatP_get l i hi
    have h7 : cur.toList.take (l.length * 2) = l.flatMap encP := by
      have h8 : cur.toList.take (l.length * 2) = l.flatMap encI2 := by simpa using e7
      exact h8
    rw [← h7] at g1 g2
    rw [List.getElem?_take_of_lt (by omega), Array.getElem?_toList] at g1 g2
    rw [cellH e3, cellH e3, Nat.zero_add]
    exact ⟨g1, g2⟩
theorem lkP_len (g : List Int) (wd : Int) : ∀ L : List Tw, L.length ≤ 12 → (lkP g wd L).length ≤ 12 * L.length
  | [], _ => by simp [lkP]
  | s :: L, h => by
    have h1 := seenL_len g wd s L
    rw [List.length_cons] at h
    have h2 := lkP_len g wd L (by omega)
    rw [lkP, List.length_append, List.length_cons]
    omega
/-- The links of a country without a fault. -/
theorem lk_pairs (wd hg : Int) (g : List Int) (T : List Tw) (H : List Hz) : ∃ P : List Pl, P.length ≤ 1000000 ∧ (ckE wd hg g T H ≠ 0 → P = []) ∧ (ckE wd hg g T H = 0 → ∀ L, Ord L T → lkP g wd L = P) := by
  by_cases hE : ckE wd hg g T H = 0
  · obtain ⟨hm, hn, _, hok, hnd, _⟩ := ckE_ok hE
    obtain ⟨L, hL⟩ := ord_exists hnd
    have h1 := hL.1.length_eq
    have h2 := lkP_len g wd L (by omega)
    exact ⟨lkP g wd L, by omega, fun h => absurd hE h, fun _ M hM => by rw [ord_unique hM hL]⟩
  · exact ⟨[], by simp, fun _ => rfl, fun h => absurd h hE⟩
theorem lk_row {w w' : World} {v : Value} {wd hg : Int} {g : List Int} {T : List Tw} {H : List Hz} {P : List Pl} (hP0 : ckE wd hg g T H ≠ 0 → P = []) (hP1 : ckE wd hg g T H = 0 → ∀ L, Ord L T → lkP g wd L = P)
    (h1 : ckE wd hg g T H ≠ 0 → v = .slice none 0 0) (h2 : ckE wd hg g T H = 0 → ∃ L, Ord L T ∧ w'.ownsRow w.heap.size 72 2 v (lkP g wd L).length ((lkP g wd L).flatMap encI2)) : PlRow w' v P := by
  by_cases hE : ckE wd hg g T H = 0
  · obtain ⟨L, hL, h3⟩ := h2 hE
    rw [hP1 hE L hL] at h3
    exact PlRow.of_pairs h3
  · rw [hP0 hE, h1 hE]; exact .inl ⟨_, _, rfl, rfl⟩
end Go.Proofs.Ytnacgogcbbpjmaa
