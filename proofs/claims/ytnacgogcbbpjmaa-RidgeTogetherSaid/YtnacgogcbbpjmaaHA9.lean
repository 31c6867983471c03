/- free of package ridge. -/
import Derived.Test.YtnacgogcbbpjmaaHA8
set_option linter.unusedVariables false
set_option linter.unusedSimpArgs false
namespace Go.Proofs.Ytnacgogcbbpjmaa
open Go Go.RowKit
attribute [local go_sem] Oper.semAt_some

theorem free_results {tmps : Array Value} {w : World} {R : Nat} {v : Value} (h : tmps.getD 10 undef = .pointer (some ⟨R, 0, none⟩)) (hg : w.cell? ⟨R, 0, none⟩ = some v) : (results Try.f48 tmps).run Try.prog w = .ok v w := by
  have h' : tmps[10]?.getD undef = .pointer (some ⟨R, 0, none⟩) := by simpa using h
  simp [results, Try.results48, asAddr, h', hg, go_sem]
def freeB (g : List Int) (wd : Int) (a : Pl) (up : Int) (b : Pl) (rise : Int) : Bool := (blk g wd a b (hAt g wd a + up) (hAt g wd b + rise)).isEmpty

set_option maxRecDepth 100000 in
set_option maxHeartbeats 8000000 in
theorem free_any (wd hg : Int) (o : Value) (g : List Int) (a b : Pl) (up rise : Int) (w : World) (hv : INRow w o g) (hm : vmB wd hg g = true) (ha : onB wd hg a = true) (hb : onB wd hg b = true) (hu : 0 ≤ up ∧ up ≤ 200) (hr : 0 ≤ rise ∧ rise ≤ 200) :
    Calls Try.prog 48 #[mpV wd hg o, plV a, .int .i64 up, plV b, .int .i64 rise] w fun e w' => e = .returned (.bool (freeB g wd a up b rise)) ∧ Below w.heap.size w w' := by
  have hgl : 0 < g.length := by have := on_idx hm ha; omega
  have HG := Lib.hid (GRow.of hv hgl)
  have HCB := Lib.hid (fun w' (h : Below w.heap.size w w') => blocks_any wd hg o g a b up rise w' (hv.keep h) hm ha hb hu hr)
  have hA := hAt_bd hm ha
  have hB := hAt_bd hm hb
  have HFB : Hid (freeB g wd a up b rise = (blk g wd a b (hAt g wd a + up) (hAt g wd b + rise)).isEmpty) := Lib.hid rfl
  obtain ⟨u, hue⟩ : ∃ x, hAt g wd a + up = x := ⟨_, rfl⟩
  obtain ⟨v, hve⟩ : ∃ x, hAt g wd b + rise = x := ⟨_, rfl⟩
  have hu2 : 0 ≤ u ∧ u ≤ 4200 := by omega
  have hv2 : 0 ≤ v ∧ v ≤ 4200 := by omega
  rw [hue, hve] at HCB HFB
  obtain ⟨fb, hfb⟩ : ∃ x, freeB g wd a up b rise = x := ⟨_, rfl⟩
  rw [hfb] at HFB ⊢
  clear hv hgl hA hB hue hve hfb
  unfold mpV plV at HCB ⊢
  have HA := Lib.hid (fun W' => three_cells w #[.int .i64 wd, .int .i64 hg, o] #[.int .i64 a.1, .int .i64 a.2] #[.int .i64 b.1, .int .i64 b.2] 24 32 32 (W := W'))
  have HB0 := Lib.hid ((((Below.refl _ w).alloc (Nat.le_refl w.heap.size) (.cells #[.int .i64 wd, .int .i64 hg, o] 24)).alloc (by simp) (.cells #[.int .i64 a.1, .int .i64 a.2] 32)).alloc (by simp; omega) (.cells #[.int .i64 b.1, .int .i64 b.2] 32))
  obtain ⟨W1, hW1⟩ : ∃ W1, ((w.alloc (.cells #[.int .i64 wd, .int .i64 hg, o] 24)).alloc (.cells #[.int .i64 a.1, .int .i64 a.2] 32)).alloc (.cells #[.int .i64 b.1, .int .i64 b.2] 32) = W1 := ⟨_, rfl⟩
  have HSZ1 : Hid (W1.heap.size = w.heap.size + 3) := Lib.hid (by rw [← hW1]; simp)
  rw [hW1] at HA HB0
  have HW1 := Lib.hid hW1
  have ead : w.heap.size + 1 + 1 = w.heap.size + 2 := rfl
  clear hW1
  refine callsIn_wide.1 (?_ : CallsIn Fence.wide 7 _ _ _ _ _)
  refine callsIn_of_wp_marks Try.func48 rfl trivial ?_ rfl
  simp only [Try.ntmps48, List.size_toArray, List.length_cons, List.length_nil, Nat.reduceAdd, Nat.reduceSub, Array.replicate_succ, Array.replicate_zero, List.push_toArray, List.append_toArray, List.nil_append, List.cons_append]
  refine wpIn_wide.2 ?_
  go_wp2_with fail
  rw [HW1.out]
  have hb2 : Below W1.heap.size W1 (W1.alloc (.cells #[.bool false] 4)) := (Below.refl _ W1).alloc (Nat.le_refl _) _
  have HB2 := Lib.hid (HB0.out.trans (hb2.mono HB0.out.size))
  refine (HCB.out _ HB2.out).mono ?_
  rintro e w2 ⟨M, A, B, F, T, rfl, hb3, hst⟩
  have HB3 := Lib.hid (HB2.out.trans (hb3.mono HB2.out.size))
  have HRR : Hid (w2.heap[w.heap.size + 2 + 1]? = some (.cells #[.bool false] 4 (0, 0)) ∧ w.heap.size + 2 + 1 < w2.heap.size) := Lib.hid (by
    have h1 := HSZ1.out
    have h2 : (W1.alloc (.cells #[.bool false] 4)).heap[w.heap.size + 2 + 1]? = some (.cells #[.bool false] 4 (0, 0)) := gAt _ _ _ (by omega)
    have h3 := (Array.getElem?_eq_some_iff.1 h2).1
    exact ⟨(hb3.block _ h3).trans h2, Nat.lt_of_lt_of_le h3 hb3.size⟩)
  have HI : Hid (BkI w.heap.size M A B F T wd hg o g a b u v w2) := Lib.hid ⟨hst, HG.out.keep HB3.out.size (fun k C t fr hk hn => HB3.out.block k hn)⟩
  clear hb2 hb3 hst
  unfold bkV
  go_wp2_with fail
  refine wpIn_wide.1 (?_ : Code.wpIn Fence.wide 7 _ _ _ _ _)
  refine rangeN (n := 7) (gf := 77) (lb := #[.pointer (some ⟨M, 0, none⟩), .pointer (some ⟨A, 0, none⟩), .pointer (some ⟨B, 0, none⟩), .pointer (some ⟨F, 0, none⟩), .pointer (some ⟨T, 0, none⟩)]) rfl (enters_of Try.func77 (by kernel_rfl) rfl)
    (blocks1_seq 6 w.heap.size M A B F T wd hg o g a b u v hm ha hb hu2 hv2) ?st (fun A B h => KpP.of_below h) (fun _ _ _ h k => h.trans k) (fun Y l ob ob' _ h hc _ => KpP.putObj h hc) (fun _ => rfl)
    (fun pre Y => pre = [] ∧ Below w.heap.size w Y ∧ Y.heap[w.heap.size + 2 + 1]? = some (.cells #[.bool false] 4 (0, 0)))
    (fun c pre Y => c = .ret ∧ pre ≠ [] ∧ Below w.heap.size w Y ∧ Y.heap[w.heap.size + 2 + 1]? = some (.cells #[.bool false] 4 (0, 0))) ?i ?ix ?ii ?iix ?h0
    (fun x a' Y => a' = { tmps := #[.agg #[.int .i64 wd, .int .i64 hg, o], .agg #[.int .i64 a.1, .int .i64 a.2], .int .i64 up, .agg #[.int .i64 b.1, .int .i64 b.2], .int .i64 rise, .pointer (some ⟨w.heap.size, 0, none⟩), .pointer (some ⟨w.heap.size + 1, 0, none⟩), undef, .pointer (some ⟨w.heap.size + 2, 0, none⟩), undef, .pointer (some ⟨w.heap.size + 2 + 1, 0, none⟩), .agg #[.int .i64 wd, .int .i64 hg, o], .agg #[.int .i64 a.1, .int .i64 a.2], .int .i64 up, .agg #[.int .i64 b.1, .int .i64 b.2], .int .i64 rise, .func (.func 77) #[] #[.pointer (some ⟨M, 0, none⟩), .pointer (some ⟨A, 0, none⟩), .pointer (some ⟨B, 0, none⟩), .pointer (some ⟨F, 0, none⟩), .pointer (some ⟨T, 0, none⟩)], .agg #[.int .i64 x.1, .int .i64 x.2]], defers := [] }) ?hv ?assign ?body ?done ?stop
  case st => exact fun ob ob' => HI.out.below (((Below.refl _ w2).alloc (Nat.le_refl _) ob).alloc (by simp) ob')
  case i => exact fun s A B row h hg hr => ⟨h.1, h.2.1.grown hg (by have := HB3.out.size; exact h.2.1.size) (fun r e => by have := (hr r e).1; have := HB3.out.size; omega), (hg.block _ (Array.getElem?_eq_some_iff.1 h.2.2).1 (fun e => by have := (hr _ e.symm).1; have := HRR.out.2; omega)).trans h.2.2⟩
  case ix => exact fun c s A B row h hg hr => ⟨h.1, h.2.1, h.2.2.1.grown hg (by exact h.2.2.1.size) (fun r e => by have := (hr r e).1; have := HB3.out.size; omega), (hg.block _ (Array.getElem?_eq_some_iff.1 h.2.2.2).1 (fun e => by have := (hr _ e.symm).1; have := HRR.out.2; omega)).trans h.2.2.2⟩
  case ii => exact fun s A B h k => ⟨h.1, k.below h.2.1 (by have := HB3.out.size; omega), (k.low _ (by have := HRR.out.2; omega)).trans h.2.2⟩
  case iix => exact fun c s A B h k => ⟨h.1, h.2.1, k.below h.2.2.1 (by have := HB3.out.size; omega), (k.low _ (by have := HRR.out.2; omega)).trans h.2.2.2⟩
  case h0 => exact ⟨rfl, HB3.out, HRR.out.1⟩
  case hv => exact fun x a' _ A B row h hg hr => h
  case assign =>
    intro l' pre x Y K hI hK
    gi_wp2
    refine hK _ _ (Below.refl _ _) ?_
    simp [go_sem]
  case body =>
    rintro l' pre x a' Y ⟨rfl, hBY, hRY⟩ rfl hlt
    have q0 := cellH hRY 0
    have q1 := freeH hRY 0
    simp at q0
    have HBY := Lib.hid hBY
    have HRY := Lib.hid hRY
    have HN := Lib.hid (heap_same hRY 0 (.bool false))
    clear hBY hRY
    gi_wp2
    exact ⟨(KeepsOthers.setCell _ _ _).from _, rfl, by simp, HBY.out.setCell (p := ⟨w.heap.size + 2 + 1, 0, none⟩) (by simp; omega) _, HN.out⟩
  case done =>
    rintro D Y hD ⟨hL, hBY, hRY⟩ hK
    have q0 := cellH hRY 0
    have q1 := freeH hRY 0
    simp at q0
    have HBY := Lib.hid (hBY.setCell (p := ⟨w.heap.size + 2 + 1, 0, none⟩) (by simp; omega) (.bool true))
    have HN := Lib.hid (heap_same hRY 0 (.bool true))
    have HK : Hid ((Y.setCell ⟨w.heap.size + 2 + 1, 0, none⟩ (.bool true)).heap[D]? = some (.deferred (some []))) := Lib.hid ((heap_other _ _ _ _ _ (fun e => by rw [e, hRY] at hK; cases hK)).trans hK)
    have HF : Hid (fb = true) := Lib.hid (by rw [HFB.out, hL]; rfl)
    clear hBY hRY hK hL
    simp only [Exit.inBlock, Exit.then]
    go_wp2_with fail
    try rw [Exit.noGoto_ret]
    exact leaves_marks5 (F := Fence.wide) (n := 7) w.heap.size [D] _ (by simp) (fun D' hD' => by
      obtain rfl : D' = D := by simpa using hD'
      exact ⟨by have := HRR.out.2; omega, HK.out⟩) (fun W' hk hb' => ⟨_, free_results rfl (cellH (hk.2 _ _ _ _ HN.out) 0), by rw [HF.out]; rfl, HBY.out.trans hb'⟩)
  case stop =>
    rintro D c pre Y hD hpre ⟨rfl, hne, hBY, hRY⟩ hK
    have HBY := Lib.hid hBY
    have HN := Lib.hid hRY
    have HK := Lib.hid hK
    have HF : Hid (fb = false) := Lib.hid (by
      rw [HFB.out]
      cases hbk : blk g wd a b u v with
      | nil => rw [hbk] at hpre; exact absurd (List.prefix_nil.1 hpre) hne
      | cons _ _ => rfl)
    clear hBY hRY hK hpre hne
    gi_wp2
    try rw [Exit.noGoto_ret]
    exact leaves_marks5 (F := Fence.wide) (n := 7) w.heap.size [D] _ (by simp) (fun D' hD' => by
      obtain rfl : D' = D := by simpa using hD'
      exact ⟨by have := HRR.out.2; omega, HK.out⟩) (fun W' hk hb' => ⟨_, free_results rfl (cellH (hk.2 _ _ _ _ HN.out) 0), by rw [HF.out]; rfl, HBY.out.trans hb'⟩)
end Go.Proofs.Ytnacgogcbbpjmaa
