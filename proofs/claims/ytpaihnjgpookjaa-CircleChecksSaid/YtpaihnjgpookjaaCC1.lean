/- Package circle: all the pairs of a dial, and whether there is one. -/
import Derived.Test.YtpaihnjgpookjaaCC0
set_option linter.unusedVariables false
set_option linter.unusedSimpArgs false
namespace Go.Proofs.Ytpaihnjgpookjaa
open Go Go.RowKit
attribute [local go_sem] Oper.semAt_some

def ckF1 (Dp : Nat) : Value := .func (.func 98) #[] #[.pointer (some ⟨Dp, 0, none⟩)]
set_option maxRecDepth 100000 in
set_option maxHeartbeats 4000000 in
theorem clashes_any (z : Ci) (v : Value) (w : World) :
    Calls Try.prog 77 #[dlV z v] w fun e w' => ∃ Dp, e = .returned (ckF1 Dp) ∧ Below w.heap.size w w' ∧ w'.heap[Dp]? = some (.cells #[.int .i64 z.id, .int .i64 z.x, .int .i64 z.y, .int .i64 z.f, .int .i64 z.t, .int .i64 z.lo, .int .i64 z.hi, .int .i64 z.dr, v] 112 (0, 0)) := by
  obtain ⟨zi, zx, zy, zf, zt, zl, zh, dr⟩ := z
  show Calls Try.prog 77 #[.agg #[.int .i64 zi, .int .i64 zx, .int .i64 zy, .int .i64 zf, .int .i64 zt, .int .i64 zl, .int .i64 zh, .int .i64 dr, v]] w _
  have HB : Hid (Below w.heap.size w (w.alloc (.cells #[.int .i64 zi, .int .i64 zx, .int .i64 zy, .int .i64 zf, .int .i64 zt, .int .i64 zl, .int .i64 zh, .int .i64 dr, v] 112))) := Lib.hid ((Below.refl _ w).alloc (Nat.le_refl _) _)
  have HN : Hid ((w.alloc (.cells #[.int .i64 zi, .int .i64 zx, .int .i64 zy, .int .i64 zf, .int .i64 zt, .int .i64 zl, .int .i64 zh, .int .i64 dr, v] 112)).heap[w.heap.size]? = some (.cells #[.int .i64 zi, .int .i64 zx, .int .i64 zy, .int .i64 zf, .int .i64 zt, .int .i64 zl, .int .i64 zh, .int .i64 dr, v] 112 (0, 0))) := Lib.hid (heap_alloc_new _ _)
  go_enter Try.func77, Try.ntmps77
  go_wp2_with fail
  go_ret
  exact ⟨_, rfl, HB.out, HN.out⟩
theorem contra_results {tmps : Array Value} {w : World} {R : Nat} {v : Value} (h : tmps.getD 2 undef = .pointer (some ⟨R, 0, none⟩)) (hg : w.cell? ⟨R, 0, none⟩ = some v) : (results Try.f84 tmps).run Try.prog w = .ok v w := by
  have h' : tmps[2]?.getD undef = .pointer (some ⟨R, 0, none⟩) := by simpa using h
  simp [results, Try.results84, asAddr, h', hg, go_sem]
theorem StC.of {W : World} {v : Value} {l : List Th} (h : ThRow W v l) (ho : ThOwn W v) : ∃ b off cap C, v = .slice (some ⟨b, off, none⟩) l.length cap ∧ l.length ≤ cap ∧ W.heap[b]? = some (.cells C 125 (0, 0)) ∧ ThC C off l := by
  obtain ⟨g, n, cap, C, rfl, hC⟩ := ho
  rcases h with ⟨a, c, hv, rfl⟩ | ⟨b, off, c, hv, hp, hb, hc⟩
  · cases hv
    exact ⟨g, 0, _, C, rfl, Nat.zero_le _, hC, fun i hi => by simp at hi⟩
  · cases hv
    refine ⟨g, 0, _, C, rfl, hp, hC, fun i hi => ?_⟩
    obtain ⟨c0, c1, c2, c3, c4, c5, c6, c7, c8, c9⟩ := hc i hi
    exact ⟨(cellH hC _).symm.trans c0, (cellH hC _).symm.trans c1, (cellH hC _).symm.trans c2, (cellH hC _).symm.trans c3, (cellH hC _).symm.trans c4, (cellH hC _).symm.trans c5, (cellH hC _).symm.trans c6, (cellH hC _).symm.trans c7, (cellH hC _).symm.trans c8, (cellH hC _).symm.trans c9⟩
/-- Whether something contradicts something. -/
def ctB (dr : Int) (l : List Th) : Bool := !(clL dr l).isEmpty

set_option maxRecDepth 100000 in
set_option maxHeartbeats 8000000 in
theorem contradicted_any (z : Ci) (v : Value) (l : List Th) (w : World) (hv : ThRow w v l) (ho : ThOwn w v) (hl : l.length ≤ 100) (hd : 0 ≤ z.dr ∧ z.dr ≤ 60) (hok : ∀ h ∈ l, h.ok) :
    Calls Try.prog 84 #[dlV z v] w fun e w' => e = .returned (.bool (ctB z.dr l)) ∧ Below w.heap.size w w' := by
  have HV := Lib.hid hv
  have HO := Lib.hid ho
  have HCB := Lib.hid (fun w' => clashes_any z v w')
  have HFB : Hid (ctB z.dr l = !(clL z.dr l).isEmpty) := Lib.hid rfl
  obtain ⟨fb, hfb⟩ : ∃ x, ctB z.dr l = x := ⟨_, rfl⟩
  rw [hfb] at HFB ⊢
  clear hv ho hfb
  obtain ⟨zi, zx, zy, zf, zt, zl, zh, dr⟩ := z
  simp only at HFB hd
  show Calls Try.prog 84 #[.agg #[.int .i64 zi, .int .i64 zx, .int .i64 zy, .int .i64 zf, .int .i64 zt, .int .i64 zl, .int .i64 zh, .int .i64 dr, v]] w _
  have HCC : Hid (∀ w', Calls Try.prog 77 #[.agg #[.int .i64 zi, .int .i64 zx, .int .i64 zy, .int .i64 zf, .int .i64 zt, .int .i64 zl, .int .i64 zh, .int .i64 dr, v]] w' fun e w'' => ∃ Dp, e = .returned (ckF1 Dp) ∧ Below w'.heap.size w' w'' ∧ w''.heap[Dp]? = some (.cells #[.int .i64 zi, .int .i64 zx, .int .i64 zy, .int .i64 zf, .int .i64 zt, .int .i64 zl, .int .i64 zh, .int .i64 dr, v] 112 (0, 0))) := Lib.hid (fun w' => HCB.out w')
  have HB1 : Hid (Below w.heap.size w (w.alloc (.cells #[.int .i64 zi, .int .i64 zx, .int .i64 zy, .int .i64 zf, .int .i64 zt, .int .i64 zl, .int .i64 zh, .int .i64 dr, v] 112))) := Lib.hid ((Below.refl _ w).alloc (Nat.le_refl _) _)
  have HN1 : Hid ((w.alloc (.cells #[.int .i64 zi, .int .i64 zx, .int .i64 zy, .int .i64 zf, .int .i64 zt, .int .i64 zl, .int .i64 zh, .int .i64 dr, v] 112)).heap[w.heap.size]? = some (.cells #[.int .i64 zi, .int .i64 zx, .int .i64 zy, .int .i64 zf, .int .i64 zt, .int .i64 zl, .int .i64 zh, .int .i64 dr, v] 112 (0, 0))) := Lib.hid (heap_alloc_new _ _)
  clear HCB
  refine callsIn_wide.1 (?_ : CallsIn Fence.wide 7 _ _ _ _ _)
  refine callsIn_of_wp_marks Try.func84 rfl trivial ?_ rfl
  simp only [Try.ntmps84, List.size_toArray, List.length_cons, List.length_nil, Nat.reduceAdd, Nat.reduceSub, Array.replicate_succ, Array.replicate_zero, List.push_toArray, List.append_toArray, List.nil_append, List.cons_append]
  refine wpIn_wide.2 ?_
  go_wp2_with fail
  obtain ⟨W1, hW1⟩ : ∃ X, (w.alloc (.cells #[.int .i64 zi, .int .i64 zx, .int .i64 zy, .int .i64 zf, .int .i64 zt, .int .i64 zl, .int .i64 zh, .int .i64 dr, v] 112)).alloc (.cells #[.bool false] 4) = X := ⟨_, rfl⟩
  have HB2 : Hid (Below w.heap.size w W1) := Lib.hid (by rw [← hW1]; exact HB1.out.alloc HB1.out.size _)
  have HR2 : Hid (W1.heap[w.heap.size + 1]? = some (.cells #[.bool false] 4 (0, 0))) := Lib.hid (by
    rw [← hW1]
    have h := heap_alloc_new (w.alloc (.cells #[.int .i64 zi, .int .i64 zx, .int .i64 zy, .int .i64 zf, .int .i64 zt, .int .i64 zl, .int .i64 zh, .int .i64 dr, v] 112)) (.cells #[.bool false] 4)
    simpa using h)
  try rw [hW1]
  clear HB1 HN1 hW1
  refine (HCC.out _).mono ?_
  rintro e w2 ⟨Dp, rfl, hb3, hst⟩
  have HB3 := Lib.hid (HB2.out.trans (hb3.mono HB2.out.size))
  have HRR : Hid (w2.heap[w.heap.size + 1]? = some (.cells #[.bool false] 4 (0, 0)) ∧ w.heap.size + 1 < w2.heap.size) := Lib.hid (by
    have h3 := (Array.getElem?_eq_some_iff.1 HR2.out).1
    exact ⟨(hb3.block _ h3).trans HR2.out, Nat.lt_of_lt_of_le h3 hb3.size⟩)
  obtain ⟨b, off, cap, C, rfl, hcap, hb0, hc⟩ := StC.of HV.out HO.out
  have HI : Hid (StC Dp ⟨zi, zx, zy, zf, zt, zl, zh, dr⟩ b off cap l C w2) := Lib.hid ⟨hst, (HB3.out.block _ (Array.getElem?_eq_some_iff.1 hb0).1).trans hb0⟩
  clear hb3 hst hb0 HCC HB2 HR2 HV HO
  unfold ckF1
  go_wp2_with fail
  refine wpIn_wide.1 (?_ : Code.wpIn Fence.wide 7 _ _ _ _ _)
  refine rangeN (n := 7) (gf := 98) (lb := #[.pointer (some ⟨Dp, 0, none⟩)]) rfl (enters_of Try.func98 (by kernel_rfl) rfl)
    (clashes1_seq 6 Dp b off cap ⟨zi, zx, zy, zf, zt, zl, zh, dr⟩ l C hc hl hcap hd hok) ?st (fun A B h => KpP.of_below h) (fun _ _ _ h k => h.trans k) (fun Y l ob ob' _ h hc _ => KpP.putObj h hc) (fun _ => rfl)
    (fun pre Y => pre = [] ∧ Below w.heap.size w Y ∧ Y.heap[w.heap.size + 1]? = some (.cells #[.bool false] 4 (0, 0)))
    (fun c pre Y => c = .ret ∧ pre ≠ [] ∧ Below w.heap.size w Y ∧ Y.heap[w.heap.size + 1]? = some (.cells #[.bool true] 4 (0, 0))) ?i ?ix ?ii ?iix ?h0
    (fun x a' Y => a' = { tmps := #[.agg #[.int .i64 zi, .int .i64 zx, .int .i64 zy, .int .i64 zf, .int .i64 zt, .int .i64 zl, .int .i64 zh, .int .i64 dr, .slice (some ⟨b, off, none⟩) l.length cap], .pointer (some ⟨w.heap.size, 0, none⟩), .pointer (some ⟨w.heap.size + 1, 0, none⟩), .agg #[.int .i64 zi, .int .i64 zx, .int .i64 zy, .int .i64 zf, .int .i64 zt, .int .i64 zl, .int .i64 zh, .int .i64 dr, .slice (some ⟨b, off, none⟩) l.length cap], .func (.func 98) #[] #[.pointer (some ⟨Dp, 0, none⟩)], .agg #[.int .i64 x.1, .int .i64 x.2]], defers := [] }) ?hv ?assign ?body ?done ?stop
  case st => exact fun ob ob' => HI.out.below (((Below.refl _ w2).alloc (Nat.le_refl _) ob).alloc (by simp) ob')
  case i => exact fun s A B row h hg hr => ⟨h.1, h.2.1.grown hg (by have := HB3.out.size; exact h.2.1.size) (fun r e => by have := (hr r e).1; have := HB3.out.size; omega), (hg.block _ (Array.getElem?_eq_some_iff.1 h.2.2).1 (fun e => by have := (hr _ e.symm).1; have := HRR.out.2; omega)).trans h.2.2⟩
  case ix => exact fun c s A B row h hg hr => ⟨h.1, h.2.1, h.2.2.1.grown hg (by exact h.2.2.1.size) (fun r e => by have := (hr r e).1; have := HB3.out.size; omega), (hg.block _ (Array.getElem?_eq_some_iff.1 h.2.2.2).1 (fun e => by have := (hr _ e.symm).1; have := HRR.out.2; omega)).trans h.2.2.2⟩
  case ii => exact fun s A B h k => ⟨h.1, k.below h.2.1 (by have := HB3.out.size; omega), (k.low _ (by have := HRR.out.2; omega)).trans h.2.2⟩
  case iix => exact fun c s A B h k => ⟨h.1, h.2.1, k.below h.2.2.1 (by have := HB3.out.size; omega), (k.low _ (by have := HRR.out.2; omega)).trans h.2.2.2⟩
  case h0 => exact ⟨rfl, HB3.out, HRR.out.1⟩
  case hv => exact fun x a' _ A B row h hg hr => h
  case assign =>
    intro l' pre x Y K hI hK
    gi_wp2
    refine hK _ _ (Below.refl _ _) ?_
    simp [go_sem, p2V]
  case body =>
    rintro l' pre x a' Y ⟨rfl, hBY, hRY⟩ rfl hlt
    have q0 := cellH hRY 0
    have q1 := freeH hRY 0
    simp at q0
    have HBY := Lib.hid hBY
    have HRY := Lib.hid hRY
    have HN := Lib.hid (heap_same hRY 0 (.bool true))
    clear hBY hRY hc hok hlt hcap hd
    gi_wp2
    exact ⟨(KeepsOthers.setCell _ _ _).from _, rfl, by simp, HBY.out.setCell (p := ⟨w.heap.size + 1, 0, none⟩) (by simp) _, HN.out⟩
  case done =>
    rintro D Y hD ⟨hL, hBY, hRY⟩ hK
    have q0 := cellH hRY 0
    have q1 := freeH hRY 0
    simp at q0
    have HBY := Lib.hid (hBY.setCell (p := ⟨w.heap.size + 1, 0, none⟩) (by simp) (.bool false))
    have HN := Lib.hid (heap_same hRY 0 (.bool false))
    have HK : Hid ((Y.setCell ⟨w.heap.size + 1, 0, none⟩ (.bool false)).heap[D]? = some (.deferred (some []))) := Lib.hid ((heap_other _ _ _ _ _ (fun e => by rw [e, hRY] at hK; cases hK)).trans hK)
    have HF : Hid (fb = false) := Lib.hid (by rw [HFB.out, hL]; rfl)
    clear hBY hRY hK hL
    simp only [Exit.inBlock, Exit.then]
    go_wp2_with fail
    try rw [Exit.noGoto_ret]
    exact leaves_marks5 (F := Fence.wide) (n := 7) w.heap.size [D] _ (by simp) (fun D' hD' => by
      obtain rfl : D' = D := by simpa using hD'
      exact ⟨by have := HRR.out.2; omega, HK.out⟩) (fun W' hk hb' => ⟨_, contra_results rfl (cellH (hk.2 _ _ _ _ HN.out) 0), by rw [HF.out]; rfl, HBY.out.trans hb'⟩)
  case stop =>
    rintro D c pre Y hD hpre ⟨rfl, hne, hBY, hRY⟩ hK
    have HBY := Lib.hid hBY
    have HN := Lib.hid hRY
    have HK := Lib.hid hK
    have HF : Hid (fb = true) := Lib.hid (by
      rw [HFB.out]
      cases hbk : clL dr l with
      | nil => rw [hbk] at hpre; exact absurd (List.prefix_nil.1 hpre) hne
      | cons _ _ => rfl)
    clear hBY hRY hK hpre hne
    gi_wp2
    try rw [Exit.noGoto_ret]
    exact leaves_marks5 (F := Fence.wide) (n := 7) w.heap.size [D] _ (by simp) (fun D' hD' => by
      obtain rfl : D' = D := by simpa using hD'
      exact ⟨by have := HRR.out.2; omega, HK.out⟩) (fun W' hk hb' => ⟨_, contra_results rfl (cellH (hk.2 _ _ _ _ HN.out) 0), by rw [HF.out]; rfl, HBY.out.trans hb'⟩)
end Go.Proofs.Ytpaihnjgpookjaa
