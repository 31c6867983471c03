/- Line of package ridge. -/
import Derived.Test.YtnacgogcbbpjmaaHB3
import Derived.Test.YtnacgogcbbpjmaaHB6
import Derived.Test.YtnacgogcbbpjmaaHI0
set_option linter.unusedVariables false
set_option linter.unusedSimpArgs false
namespace Go.Proofs.Ytnacgogcbbpjmaa
open Go Go.RowKit
attribute [local go_sem] Oper.semAt_some

theorem info_pf : (Try.prog.info? 71).map (fun i => (i.zero, i.size, i.bytes)) = some (some (.agg #[.int .i64 0, .int .i64 0, .int .i64 0, .int .i64 0, .int .i64 0, .int .i64 0]), 6, 48) := by kernel_rfl
theorem own_kc5 {X Y : World} {b0 b1 : Nat} {e : TypeId} {size : Nat} {v : Value} {n : Nat} {xs : List Value} (h : X.ownsRow b1 e size v n xs) (k : KC5 X Y) (hb : b0 ≤ b1) : Y.ownsRow b0 e size v n xs := by
  refine ⟨h.1, ?_⟩
  rcases h.2 with h | ⟨g, cap, cur, k1, k2, k3, k4⟩
  · exact .inl h
  · exact .inr ⟨g, cap, cur, k1, Nat.le_trans hb k2, k.2 _ _ _ _ k3, k4⟩
/-- A profile, as its six numbers. -/
def pfL (x : Mt) : List Value := [.int .i64 x.ax, .int .i64 x.k, .int .i64 (lowP x.k x.n).1, .int .i64 (lowP x.k x.n).2, .int .i64 (lowP x.g x.n).1, .int .i64 (lowP x.g x.n).2]
def pfs (l : List Mt) : List Value := l.flatMap pfL
/-- What Line returns: nothing, or the profiles in a row of its own. -/
def LineOut (wd hg : Int) (g : List Int) (a b : Pl) (w : World) (e : Ending) (w' : World) : Prop :=
  ∃ v, e = .returned (.tuple #[v, .int .i64 (lnE wd hg g a b [])]) ∧ Below w.heap.size w w' ∧ (vlB wd hg g a b [] = false → v = .slice none 0 0) ∧ (vlB wd hg g a b [] = true → w'.ownsRow w.heap.size 71 6 v (mts g wd a b).length (pfs (mts g wd a b)))
def LnInv (w W1 Y : World) (wd hg : Int) (o : Value) (a0 b0 : Pl) (X M2 F2 T2 p : Nat) (v : Value) (x : Mt) (listed : Array Bool) (a : Act) (w' : World) : Prop := ∃ (l0 l1 l2 l3 l4 l5 l6 l7 l8 l9 l10 l11 l12 l13 l14 l15 : Bool) (Pb : Nat), listed = #[l0, l1, l2, l3, l4, l5, l6, l7, l8, l9, l10, l11, l12, l13, l14, l15, false, false] ∧ a = { tmps := #[.agg #[.int .i64 wd, .int .i64 hg, o], .agg #[.int .i64 a0.1, .int .i64 a0.2], .agg #[.int .i64 b0.1, .int .i64 b0.2], .pointer (some ⟨w.heap.size, 0, none⟩), .pointer (some ⟨w.heap.size + 1, 0, none⟩), .pointer (some ⟨w.heap.size + 2, 0, none⟩), .slice none 0 0, .int .i64 0, .pointer (some ⟨W1.heap.size, 0, none⟩), .pointer (some ⟨p, 0, none⟩), .agg #[.int .i64 wd, .int .i64 hg, o], .agg #[.int .i64 a0.1, .int .i64 a0.2], .agg #[.int .i64 b0.1, .int .i64 b0.2], .bool true, .bool false, .agg #[.int .i64 wd, .int .i64 hg, o], .agg #[.int .i64 a0.1, .int .i64 a0.2], .agg #[.int .i64 b0.1, .int .i64 b0.2], .func (.func 73) #[] #[.pointer (some ⟨X, 0, none⟩), .pointer (some ⟨M2, 0, none⟩), .pointer (some ⟨F2, 0, none⟩), .pointer (some ⟨T2, 0, none⟩)], .agg #[.int .i64 x.ax, .int .i64 x.k, .int .i64 x.n, .int .i64 x.g], onlyIf l0 (v), onlyIf l1 (.pointer (some ⟨p, 0, none⟩)), onlyIf l2 (.agg #[.int .i64 x.ax, .int .i64 x.k]), onlyIf l3 (.pointer (some ⟨p, 0, none⟩)), onlyIf l4 (.pointer (some ⟨p, 1, none⟩)), onlyIf l5 (.int .i64 x.k), onlyIf l6 (.pointer (some ⟨p, 2, none⟩)), onlyIf l7 (.int .i64 x.n), onlyIf l8 (.agg #[.int .i64 (lowP x.k x.n).1, .int .i64 (lowP x.k x.n).2]), onlyIf l9 (.pointer (some ⟨p, 3, none⟩)), onlyIf l10 (.int .i64 x.g), onlyIf l11 (.pointer (some ⟨p, 2, none⟩)), onlyIf l12 (.int .i64 x.n), onlyIf l13 (.agg #[.int .i64 (lowP x.g x.n).1, .int .i64 (lowP x.g x.n).2]), onlyIf l14 (.agg #[.int .i64 x.ax, .int .i64 x.k, .int .i64 (lowP x.k x.n).1, .int .i64 (lowP x.k x.n).2, .int .i64 (lowP x.g x.n).1, .int .i64 (lowP x.g x.n).2]), onlyIf l15 (.slice (some ⟨Pb, 0, none⟩) 1 1), undef, undef], defers := [] } ∧ Below Y.heap.size Y w' ∧ (l15 = true → Y.heap.size ≤ Pb ∧ w'.heap[Pb]? = some (.cells #[.int .i64 x.ax, .int .i64 x.k, .int .i64 (lowP x.k x.n).1, .int .i64 (lowP x.k x.n).2, .int .i64 (lowP x.g x.n).1, .int .i64 (lowP x.g x.n).2] 71 (0, 0)))

set_option maxRecDepth 100000 in
set_option maxHeartbeats 8000000 in
theorem Line_any (wd hg : Int) (o : Value) (g : List Int) (a b : Pl) (w : World) (hv : INRow w o g) (hl : g.length ≤ 9223372036854775807) :
    Calls Try.prog 17 #[mpV wd hg o, plV a, plV b] w fun e w' => LineOut wd hg g a b w e w' := by
  have HC1 := Lib.hid (fun w' (h : Below w.heap.size w w') => validLine_any wd hg o g a b (.slice none 0 0) [] w' (hv.keep h) hl (.inl ⟨_, _, rfl, rfl⟩) (by simp))
  have HCR := Lib.hid (fun w' => crossings_any wd hg o a b w')
  have HV := Lib.hid hv
  clear hv hl
  have HV2 : Hid (lnE wd hg g a b [] = if vlB wd hg g a b [] = true then 0 else 1) := Lib.hid rfl
  unfold mpV plV at HC1 HCR
  have HA := Lib.hid (fun W' => three_cells w #[.int .i64 wd, .int .i64 hg, o] #[.int .i64 a.1, .int .i64 a.2] #[.int .i64 b.1, .int .i64 b.2] 24 32 32 (W := W'))
  have HB0 := Lib.hid ((((Below.refl _ w).alloc (Nat.le_refl w.heap.size) (.cells #[.int .i64 wd, .int .i64 hg, o] 24)).alloc (by simp) (.cells #[.int .i64 a.1, .int .i64 a.2] 32)).alloc (by simp; omega) (.cells #[.int .i64 b.1, .int .i64 b.2] 32))
  obtain ⟨W1, hW1⟩ : ∃ W1, ((w.alloc (.cells #[.int .i64 wd, .int .i64 hg, o] 24)).alloc (.cells #[.int .i64 a.1, .int .i64 a.2] 32)).alloc (.cells #[.int .i64 b.1, .int .i64 b.2] 32) = W1 := ⟨_, rfl⟩
  have HSZ1 : Hid (W1.heap.size = w.heap.size + 3) := Lib.hid (by rw [← hW1]; simp)
  rw [hW1] at HA HB0
  have HW1 := Lib.hid hW1
  have ead : w.heap.size + 1 + 1 = w.heap.size + 2 := rfl
  clear hW1
  refine callsIn_wide.1 (?_ : CallsIn Fence.wide 7 _ _ _ _ _)
  unfold mpV plV
  refine callsIn_of_wp_marks Try.func17 rfl trivial ?_ rfl
  simp only [Try.ntmps17, List.size_toArray, List.length_cons, List.length_nil, Nat.reduceAdd, Nat.reduceSub, Array.replicate_succ, Array.replicate_zero, List.push_toArray, List.append_toArray, List.nil_append, List.cons_append]
  refine wpIn_wide.2 ?_
  by_cases hvl : vlB wd hg g a b [] = true
  case neg =>
    have hvl' : vlB wd hg g a b [] = false := by simpa using hvl
    have HVL := Lib.hid hvl'
    rw [hvl'] at HC1 HV2
    have HN : Hid (lnE wd hg g a b [] = 1) := Lib.hid (by rw [HV2.out]; rfl)
    clear hvl hvl'
    go_wp2_with fail
    rw [HW1.out]
    obtain ⟨m0, m1, m2, _, hw1⟩ := HA.out W1 (Below.refl _ _)
    have q0 := cellH m0 0
    have q1 := cellH m0 1
    have q2 := cellH m0 2
    have r0 := cellH m1 0
    have r1 := cellH m1 1
    have s0 := cellH m2 0
    have s1 := cellH m2 1
    simp at q0 q1 q2 r0 r1 s0 s1
    clear m0 m1 m2
    go_wp2_with fail
    refine (HC1.out _ HB0.out).mono ?_
    rintro e w2 ⟨rfl, hb2⟩
    have HB2 := Lib.hid (HB0.out.trans (hb2.mono HB0.out.size))
    clear hb2 q0 q1 q2 r0 r1 s0 s1
    go_wp2_with fail
    try rw [Exit.noGoto_ret]
    exact leaves_marks5 (F := Fence.wide) (n := 7) w.heap.size [] _ (by simp) (fun D' hD' => by simp at hD') (fun W' hk hb' => ⟨_, results_tmp2 Try.results17 _ _ _, _, by rw [HN.out]; rfl, HB2.out.trans hb', fun _ => rfl, fun h => (by rw [HVL.out] at h; cases h)⟩)
  rw [hvl] at HC1 HV2
  obtain ⟨hm, ha, hb, ht⟩ := vlB_ok hvl
  have HVL := Lib.hid hvl
  have hgl : 0 < g.length := by have := on_idx hm ha; omega
  have HG := Lib.hid (GRow.of HV.out hgl)
  have HN : Hid (lnE wd hg g a b [] = 0) := Lib.hid (by rw [HV2.out]; rfl)
  have ha0 := onB_ok ha
  have hb0 := onB_ok hb
  have hm0 := vmB_ok hm
  have HCR1 := Lib.hid (fun w' => HCR.out w' (by omega) (by omega))
  clear hvl ht hgl ha0 hb0 hm0
  go_wp2_with fail
  rw [HW1.out]
  obtain ⟨m0, m1, m2, _, hw1⟩ := HA.out W1 (Below.refl _ _)
  have q0 := cellH m0 0
  have q1 := cellH m0 1
  have q2 := cellH m0 2
  have r0 := cellH m1 0
  have r1 := cellH m1 1
  have s0 := cellH m2 0
  have s1 := cellH m2 1
  simp at q0 q1 q2 r0 r1 s0 s1
  clear m0 m1 m2
  go_wp2_with fail
  refine (HC1.out _ HB0.out).mono ?_
  rintro e w2 ⟨rfl, hb2⟩
  have HD2 := Lib.hid hb2
  clear q0 q1 q2 r0 r1 s0 s1
  obtain ⟨m0, m1, m2, _, hw2⟩ := HA.out w2 HD2.out
  have q0 := cellH m0 0
  have q1 := cellH m0 1
  have q2 := cellH m0 2
  have r0 := cellH m1 0
  have r1 := cellH m1 1
  have s0 := cellH m2 0
  have s1 := cellH m2 1
  simp at q0 q1 q2 r0 r1 s0 s1
  clear m0 m1 m2
  have HB2 := Lib.hid hw2
  have hws : w.heap.size + 2 < w2.heap.size := by have h1 := hb2.size; have h2 := HSZ1.out; omega
  have hl0 : w.heap.size < w2.heap.size := by omega
  have hl1 : w.heap.size + 1 < w2.heap.size := by omega
  have hn0 : w.heap.size ≠ w2.heap.size := by omega
  have hn1 : w.heap.size + 1 ≠ w2.heap.size := by omega
  have hn2 : w.heap.size + 2 ≠ w2.heap.size := by omega
  have hbh : Below w2.heap.size w2 (w2.alloc (.cells #[.slice none 0 0] 54)) := (Below.refl _ w2).alloc (Nat.le_refl _) _
  have HBH := Lib.hid (hw2.trans (hbh.mono hw2.size))
  have HH0 : Hid ((w2.alloc (.cells #[.slice none 0 0] 54)).heap[w2.heap.size]? = some (.cells #[.slice none 0 0] 54 (0, 0))) := Lib.hid (heap_alloc_new _ _)
  clear hb2 hw1 hw2 hbh
  go_wp2_with fail
  refine (HCR1.out _).mono ?_
  rintro e w3 ⟨X, M2, F2, T2, rfl, hb3, hst3⟩
  have HB3 := Lib.hid (HBH.out.trans (hb3.mono HBH.out.size))
  have HH3 : Hid (w3.heap[w2.heap.size]? = some (.cells #[.slice none 0 0] 54 (0, 0)) ∧ w2.heap.size < w3.heap.size) := Lib.hid (by
    have h1 := (Array.getElem?_eq_some_iff.1 HH0.out).1
    exact ⟨(hb3.block _ h1).trans HH0.out, Nat.lt_of_lt_of_le h1 hb3.size⟩)
  have HI : Hid (CrI w.heap.size X M2 F2 T2 wd hg o g a b w3) := Lib.hid ⟨hst3, HG.out.keep HB3.out.size (fun k C t fr hk hn => HB3.out.block k hn)⟩
  clear hb3 hst3
  clear q0 q1 q2 r0 r1 s0 s1
  unfold crV
  go_wp2_with fail
  refine wpIn_wide.1 (?_ : Code.wpIn Fence.wide 7 _ _ _ _ _)
  refine rangeN (n := 7) (gf := 73) (lb := #[.pointer (some ⟨X, 0, none⟩), .pointer (some ⟨M2, 0, none⟩), .pointer (some ⟨F2, 0, none⟩), .pointer (some ⟨T2, 0, none⟩)]) rfl (enters_of Try.func73 (by kernel_rfl) rfl)
    (crossings1_seq 6 w.heap.size X M2 F2 T2 wd hg o g a b hm ha hb) ?st (fun A B h => KpP.of_below h) (fun _ _ _ h k => h.trans k) (fun Y l ob ob' _ h hc _ => KpP.putObj h hc) (fun _ => rfl)
    (fun pre Y => RgQ 54 71 6 w3 w3.heap.size w2.heap.size pre.length (pfs pre) Y)
    (fun _ _ _ => False) ?i (fun _ _ _ _ _ h _ _ => h) ?ii (fun _ _ _ _ h _ => h) ?h0
    (fun x a' Y => ∃ p, a' = { tmps := #[.agg #[.int .i64 wd, .int .i64 hg, o], .agg #[.int .i64 a.1, .int .i64 a.2], .agg #[.int .i64 b.1, .int .i64 b.2], .pointer (some ⟨w.heap.size, 0, none⟩), .pointer (some ⟨w.heap.size + 1, 0, none⟩), .pointer (some ⟨w.heap.size + 2, 0, none⟩), .slice none 0 0, .int .i64 0, .pointer (some ⟨w2.heap.size, 0, none⟩), .pointer (some ⟨p, 0, none⟩), .agg #[.int .i64 wd, .int .i64 hg, o], .agg #[.int .i64 a.1, .int .i64 a.2], .agg #[.int .i64 b.1, .int .i64 b.2], .bool true, .bool false, .agg #[.int .i64 wd, .int .i64 hg, o], .agg #[.int .i64 a.1, .int .i64 a.2], .agg #[.int .i64 b.1, .int .i64 b.2], .func (.func 73) #[] #[.pointer (some ⟨X, 0, none⟩), .pointer (some ⟨M2, 0, none⟩), .pointer (some ⟨F2, 0, none⟩), .pointer (some ⟨T2, 0, none⟩)], .agg #[.int .i64 x.ax, .int .i64 x.k, .int .i64 x.n, .int .i64 x.g], undef, undef, undef, undef, undef, undef, undef, undef, undef, undef, undef, undef, undef, undef, undef, undef, undef, undef], defers := [] } ∧ Y.heap[p]? = some (.cells #[.int .i64 x.ax, .int .i64 x.k, .int .i64 x.n, .int .i64 x.g] 102 (0, 0)) ∧ w3.heap.size ≤ p) ?hv ?assign ?body ?done (fun _ _ _ _ _ _ h => h.elim)
  case st => exact fun ob ob' => HI.out.below (((Below.refl _ w3).alloc (Nat.le_refl _) ob).alloc (by simp) ob')
  case i => exact fun s A B row h hg hr => h.grown HH3.out.2 hg hr
  case ii => exact fun s A B h k => h.own HH3.out.2 k (by omega) (by decide)
  case h0 => exact ⟨⟨fun _ _ _ => rfl, Nat.le_refl _, rfl, rfl, rfl⟩, _, HH3.out.1, World.ownsRow_nil _ _ _ _⟩
  case hv =>
    rintro x a' _ A B row ⟨p, h1, h2, h3⟩ hg hr
    refine ⟨p, h1, (hg.block p (Array.getElem?_eq_some_iff.1 h2).1 (fun q => ?_)).trans h2, h3⟩
    obtain ⟨_, ob, ho, hoc⟩ := hr p q.symm
    rw [h2] at ho; cases ho; cases hoc
  case assign =>
    intro l' pre x Y K hI hK
    unfold mtV
    gi_wp2
    exact hK _ _ ((Below.refl _ Y).alloc (Nat.le_refl _) _) ⟨Y.heap.size, rfl, heap_alloc_new _ _, hI.1.2.1⟩
  case body =>
    rintro l' pre x a' Y hR ⟨p, rfl, hp, hpn⟩ hlt
    have hxm : x ∈ mts g wd a b := hlt.subset (by simp)
    obtain ⟨_, k1, k2, k3, g1, g2⟩ := mts_bd hm ha hb hxm
    have hlen96 := mts_len hm ha hb
    have hln : pre.length < 96 := by
      have := hlt.length_le
      simp at this; omega
    obtain ⟨hbse, v, hv, hrow⟩ := hR
    have hHY : w2.heap.size < Y.heap.size := by have := HH3.out.2; have := hbse.2.1; omega
    have HRD : Hid (∀ W', Below Y.heap.size Y W' → W'.cell? ⟨p, 0, none⟩ = some (.int .i64 x.ax) ∧ W'.cell? ⟨p, 1, none⟩ = some (.int .i64 x.k) ∧ W'.cell? ⟨p, 2, none⟩ = some (.int .i64 x.n) ∧ W'.cell? ⟨p, 3, none⟩ = some (.int .i64 x.g) ∧ W'.cell? ⟨w2.heap.size, 0, none⟩ = some v) := Lib.hid (fun W' h => by
      have hp' := (h.block _ (Array.getElem?_eq_some_iff.1 hp).1).trans hp
      exact ⟨cellH hp' 0, cellH hp' 1, cellH hp' 2, cellH hp' 3, (h.cell (p := ⟨w2.heap.size, 0, none⟩) hHY).trans hv.cell⟩)
    have CK : Hid (∀ w', Below Y.heap.size Y w' → Calls Try.prog 47 #[.int .i64 x.k, .int .i64 x.n] w' fun e w'' => e = .returned (.agg #[.int .i64 (lowP x.k x.n).1, .int .i64 (lowP x.k x.n).2]) ∧ Below w'.heap.size w' w'') := Lib.hid (fun w' h => lowest_any x.k x.n w' (by omega) (by omega))
    have CG : Hid (∀ w', Below Y.heap.size Y w' → Calls Try.prog 47 #[.int .i64 x.g, .int .i64 x.n] w' fun e w'' => e = .returned (.agg #[.int .i64 (lowP x.g x.n).1, .int .i64 (lowP x.g x.n).2]) ∧ Below w'.heap.size w' w'') := Lib.hid (fun w' h => lowest_any x.g x.n w' (by omega) (by omega))
    have HROW := Lib.hid hrow
    have HVV := Lib.hid hv
    have HBSE := Lib.hid hbse
    have hYn : w3.heap.size ≤ Y.heap.size := hbse.2.1
    have hw3s := HB3.out.size
    obtain ⟨i0, hi0, hz0, hz1, hz2⟩ := info_parts info_pf
    clear hp hxm k1 k2 k3 g1 g2 hlt hlen96 hrow hv hbse
    gi_wp2
    refine wpIn_region_invtail 16 (by kernel_rfl) (by kernel_rfl) (by kernel_rfl) (by kernel_rfl) (by decide) (by kernel_rfl) (LnInv w w2 Y wd hg o a b X M2 F2 T2 p v x) ⟨false, false, false, false, false, false, false, false, false, false, false, false, false, false, false, false, 0, rfl, rfl, (Below.refl _ Y).drew, by simp⟩ ?hend ?hstep
    case hstep =>
      rintro listed a2 w' i ⟨l0, l1, l2, l3, l4, l5, l6, l7, l8, l9, l10, l11, l12, l13, l14, l15, Pb, rfl, rfl, hb, hP⟩ hi hin
      obtain ⟨hf, o', ho', hp2⟩ := mem_ready.1 hi
      clear hi
      have hQD := HRD.out w' hb
      match i, hin with
      | 0, _ =>
        obtain rfl : l0 = false := hf
        clear hp2 ho'
        unfold wpOpIn
        go_simp
        exact ⟨true, l1, l2, l3, l4, l5, l6, l7, l8, l9, l10, l11, l12, l13, l14, l15, Pb, rfl, rfl, hb, hP⟩
      | 1, _ =>
        obtain rfl : l1 = false := hf
        clear hp2 ho'
        unfold wpOpIn
        go_simp
        exact ⟨l0, true, l2, l3, l4, l5, l6, l7, l8, l9, l10, l11, l12, l13, l14, l15, Pb, rfl, rfl, hb, hP⟩
      | 2, _ =>
        obtain rfl : l2 = false := hf
        cases ho'
        obtain rfl : l1 = true := hp2 ⟨1, .data⟩ (by simp) rfl
        clear hp2
        unfold wpOpIn
        simp only [onlyIf_true]
        go_simp
        exact ⟨l0, true, true, l3, l4, l5, l6, l7, l8, l9, l10, l11, l12, l13, l14, l15, Pb, rfl, rfl, hb, hP⟩
      | 3, _ =>
        obtain rfl : l3 = false := hf
        clear hp2 ho'
        unfold wpOpIn
        go_simp
        exact ⟨l0, l1, l2, true, l4, l5, l6, l7, l8, l9, l10, l11, l12, l13, l14, l15, Pb, rfl, rfl, hb, hP⟩
      | 4, _ =>
        obtain rfl : l4 = false := hf
        cases ho'
        obtain rfl : l3 = true := hp2 ⟨3, .data⟩ (by simp) rfl
        clear hp2
        unfold wpOpIn
        simp only [onlyIf_true]
        go_simp
        exact ⟨l0, l1, l2, true, true, l5, l6, l7, l8, l9, l10, l11, l12, l13, l14, l15, Pb, rfl, rfl, hb, hP⟩
      | 5, _ =>
        obtain rfl : l5 = false := hf
        cases ho'
        obtain rfl : l4 = true := hp2 ⟨4, .data⟩ (by simp) rfl
        clear hp2
        unfold wpOpIn
        simp only [onlyIf_true]
        go_simp
        exact ⟨l0, l1, l2, l3, true, true, l6, l7, l8, l9, l10, l11, l12, l13, l14, l15, Pb, rfl, rfl, hb, hP⟩
      | 6, _ =>
        obtain rfl : l6 = false := hf
        clear hp2 ho'
        unfold wpOpIn
        go_simp
        exact ⟨l0, l1, l2, l3, l4, l5, true, l7, l8, l9, l10, l11, l12, l13, l14, l15, Pb, rfl, rfl, hb, hP⟩
      | 7, _ =>
        obtain rfl : l7 = false := hf
        cases ho'
        obtain rfl : l6 = true := hp2 ⟨6, .data⟩ (by simp) rfl
        clear hp2
        unfold wpOpIn
        simp only [onlyIf_true]
        go_simp
        exact ⟨l0, l1, l2, l3, l4, l5, true, true, l8, l9, l10, l11, l12, l13, l14, l15, Pb, rfl, rfl, hb, hP⟩
      | 8, _ =>
        obtain rfl : l8 = false := hf
        cases ho'
        obtain rfl : l5 = true := hp2 ⟨5, .data⟩ (by simp) rfl
        obtain rfl : l7 = true := hp2 ⟨7, .data⟩ (by simp) rfl
        clear hp2
        unfold wpOpIn
        simp only [onlyIf_true]
        go_simp
        refine ⟨trivial, ?_⟩
        gi_at_call 47
        refine (((callsIn_wide.2 (CK.out w' hb)).inRound l')).mono ?_
        rintro e w5 ⟨rfl, hb5⟩
        exact ⟨l0, l1, l2, l3, l4, true, l6, true, true, l9, l10, l11, l12, l13, l14, l15, Pb, rfl, rfl, hb.trans (hb5.mono hb.size), fun h => ⟨(hP h).1, (hb5.block _ (Array.getElem?_eq_some_iff.1 (hP h).2).1).trans (hP h).2⟩⟩
      | 9, _ =>
        obtain rfl : l9 = false := hf
        clear hp2 ho'
        unfold wpOpIn
        go_simp
        exact ⟨l0, l1, l2, l3, l4, l5, l6, l7, l8, true, l10, l11, l12, l13, l14, l15, Pb, rfl, rfl, hb, hP⟩
      | 10, _ =>
        obtain rfl : l10 = false := hf
        cases ho'
        obtain rfl : l9 = true := hp2 ⟨9, .data⟩ (by simp) rfl
        clear hp2
        unfold wpOpIn
        simp only [onlyIf_true]
        go_simp
        exact ⟨l0, l1, l2, l3, l4, l5, l6, l7, l8, true, true, l11, l12, l13, l14, l15, Pb, rfl, rfl, hb, hP⟩
      | 11, _ =>
        obtain rfl : l11 = false := hf
        clear hp2 ho'
        unfold wpOpIn
        go_simp
        exact ⟨l0, l1, l2, l3, l4, l5, l6, l7, l8, l9, l10, true, l12, l13, l14, l15, Pb, rfl, rfl, hb, hP⟩
      | 12, _ =>
        obtain rfl : l12 = false := hf
        cases ho'
        obtain rfl : l11 = true := hp2 ⟨11, .data⟩ (by simp) rfl
        clear hp2
        unfold wpOpIn
        simp only [onlyIf_true]
        go_simp
        exact ⟨l0, l1, l2, l3, l4, l5, l6, l7, l8, l9, l10, true, true, l13, l14, l15, Pb, rfl, rfl, hb, hP⟩
      | 13, _ =>
        obtain rfl : l13 = false := hf
        cases ho'
        obtain rfl : l10 = true := hp2 ⟨10, .data⟩ (by simp) rfl
        obtain rfl : l12 = true := hp2 ⟨12, .data⟩ (by simp) rfl
        clear hp2
        unfold wpOpIn
        simp only [onlyIf_true]
        go_simp
        refine ⟨trivial, ?_⟩
        gi_at_call 47
        refine (((callsIn_wide.2 (CG.out w' hb)).inRound l')).mono ?_
        rintro e w5 ⟨rfl, hb5⟩
        exact ⟨l0, l1, l2, l3, l4, l5, l6, l7, l8, l9, true, l11, true, true, l14, l15, Pb, rfl, rfl, hb.trans (hb5.mono hb.size), fun h => ⟨(hP h).1, (hb5.block _ (Array.getElem?_eq_some_iff.1 (hP h).2).1).trans (hP h).2⟩⟩
      | 14, _ =>
        obtain rfl : l14 = false := hf
        cases ho'
        obtain rfl : l2 = true := hp2 ⟨2, .data⟩ (by simp) rfl
        obtain rfl : l8 = true := hp2 ⟨8, .data⟩ (by simp) rfl
        obtain rfl : l13 = true := hp2 ⟨13, .data⟩ (by simp) rfl
        clear hp2
        unfold wpOpIn
        simp only [onlyIf_true]
        go_simp
        exact ⟨l0, l1, true, l3, l4, l5, l6, l7, true, l9, l10, l11, l12, true, true, l15, Pb, rfl, rfl, hb, hP⟩
      | 15, _ =>
        obtain rfl : l15 = false := hf
        cases ho'
        obtain rfl : l14 = true := hp2 ⟨14, .data⟩ (by simp) rfl
        clear hp2
        unfold wpOpIn
        simp only [onlyIf_true]
        go_simp
        exact ⟨l0, l1, l2, l3, l4, l5, l6, l7, l8, l9, l10, l11, l12, l13, true, true, w'.heap.size, rfl, rfl, hb.alloc hb.size _, fun _ => ⟨hb.size, heap_alloc_new _ _⟩⟩
      | k + 16, h => exact absurd h (by omega)
    case hend =>
      rintro listed a2 w' ⟨l0, l1, l2, l3, l4, l5, l6, l7, l8, l9, l10, l11, l12, l13, l14, l15, Pb, rfl, rfl, hb, hP⟩ hA
      have hall : l0 = true ∧ l1 = true ∧ l2 = true ∧ l3 = true ∧ l4 = true ∧ l5 = true ∧ l6 = true ∧ l7 = true ∧ l8 = true ∧ l9 = true ∧ l10 = true ∧ l11 = true ∧ l12 = true ∧ l13 = true ∧ l14 = true ∧ l15 = true := ⟨hA 0 (by decide), hA 1 (by decide), hA 2 (by decide), hA 3 (by decide), hA 4 (by decide), hA 5 (by decide), hA 6 (by decide), hA 7 (by decide), hA 8 (by decide), hA 9 (by decide), hA 10 (by decide), hA 11 (by decide), hA 12 (by decide), hA 13 (by decide), hA 14 (by decide), hA 15 (by decide)⟩
      obtain ⟨rfl, rfl, rfl, rfl, rfl, rfl, rfl, rfl, rfl, rfl, rfl, rfl, rfl, rfl, rfl, rfl⟩ := hall
      simp only [onlyIf_true, List.drop_succ_cons, List.drop_zero]
      obtain ⟨hP1, hP2⟩ := hP rfl
      have hbse2 : (∀ b, b < w3.heap.size → b ≠ w2.heap.size → w'.heap[b]? = w3.heap[b]?) ∧ w3.heap.size ≤ w'.heap.size ∧ w'.os = w3.os ∧ w'.tape = w3.tape ∧ w'.output = w3.output :=
        ⟨fun b' h1 h2 => (hb.block b' (by omega)).trans (HBSE.out.1 b' h1 h2), by have := hb.size; omega, hb.os.trans HBSE.out.2.2.1, hb.tape.trans HBSE.out.2.2.2.1, hb.output.trans HBSE.out.2.2.2.2⟩
      have hv2 : Boxed w' w2.heap.size 54 v := (hb.block _ hHY).trans HVV.out
      have hrow2 := row_below HROW.out hb
      have hnw : ∀ (j : Nat) (u : Value), (pfL x)[j]? = some u → w'.cell? ((⟨Pb, 0, none⟩ : Addr).add j) = some u := fun j u h => by
        rw [addr_add, Nat.zero_add, cellH hP2, ← h]; simp [pfL]
      have HB := Lib.hid hb
      have hwn : w3.heap.size ≤ w'.heap.size := hbse2.2.1
      have HBS2 := Lib.hid hbse2
      have HV2' := Lib.hid hv2
      have HR2 := Lib.hid hrow2
      clear hb hP hA hbse2 hv2 HRD CK CG
      gi_wp2_with (gi_at_builtin; refine wpListIn_append_own_at _ rfl _ _ 54 rfl w3.heap.size 71 i0 (.agg #[.int .i64 0, .int .i64 0, .int .i64 0, .int .i64 0, .int .i64 0, .int .i64 0]) 6 48 Try.underlying54 hi0 hz0 hz1 hz2 rfl (by decide) _ _ _ rfl hrow2 ⟨Pb, 0, none⟩ 1 1 (pfL x) rfl rfl hnw (by simp [pfL, Value.oneCell']) (by unfold maxLen; omega) (by omega) hwn ?_; intro v' w10 hown' hgrow _ hat; obtain ⟨g', cap', rfl⟩ := ownsRow_succ hown'; obtain ⟨r1, r2, r3, r4⟩ := RgQ.appended2 HBS2.out HV2'.out HR2.out HH3.out.2 hown' hgrow (pR w.heap.size) (by unfold pR; intro h; rcases h with h | h | h <;> first | omega | exact absurd h (by decide)) (by unfold pR; intro q hq' h; rcases h with h | h | h <;> first | omega | exact absurd h (by decide)); have hc1 := r4.cell; have hf1 := r4.frozen)
      refine ⟨(below_keeps HB.out).trans r1, (KpP.of_below HB.out).trans r2, ?_⟩
      show RgQ _ _ _ _ _ _ (pre ++ [x]).length (pfs (pre ++ [x])) _
      rw [List.length_append, show pfs (pre ++ [x]) = pfs pre ++ pfL x by unfold pfs; rw [List.flatMap_append]; simp]
      exact r3
  case done =>
    rintro D Y hD hR hK
    obtain ⟨hbse, v, hv, hrow⟩ := hR
    have hc := hv.cell
    have hBY : Below w.heap.size w Y := ⟨hbse.2.2.1.trans HB3.out.os, hbse.2.2.2.1.trans HB3.out.tape, hbse.2.2.2.2.trans HB3.out.output, by have := HB3.out.size; have := hbse.2.1; omega, fun b' hb' => (hbse.1 b' (by have := HB3.out.size; omega) (by omega)).trans (HB3.out.block b' hb')⟩
    have HBY := Lib.hid hBY
    have HK := Lib.hid hK
    have HROW := Lib.hid hrow
    have hDw : w.heap.size ≤ D := by have := HB3.out.size; omega
    have hw3 : w.heap.size ≤ w3.heap.size := HB3.out.size
    clear hbse hv hrow hBY hK
    simp only [Exit.inBlock, Exit.then]
    go_wp2_with fail
    try rw [Exit.noGoto_ret]
    exact leaves_marks5 (F := Fence.wide) (n := 7) w.heap.size [D] _ (by simp) (fun D' hD' => by
      obtain rfl : D' = D := by simpa using hD'
      exact ⟨hDw, HK.out⟩) (fun W' hk hb' => ⟨_, results_tmp2 Try.results17 _ _ _, v, by rw [HN.out]; rfl, HBY.out.trans hb', fun h => (by rw [HVL.out] at h; cases h), fun _ => own_kc5 HROW.out hk hw3⟩)
end Go.Proofs.Ytnacgogcbbpjmaa
