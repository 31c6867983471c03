/- Closed of package relay. -/
import Derived.Test.YtiboolbndfhomaaNF2
import Derived.Test.YtiboolbndfhomaaNF0
set_option linter.unusedVariables false
set_option linter.unusedSimpArgs false
namespace Go.Proofs.Ytiboolbndfhomaa
open Go.RowKit
attribute [local go_sem] Oper.semAt_some

theorem closed_results {tmps : Array Value} {w : World} {R : Nat} {u v : Value} {q : Int} (h4 : tmps.getD 4 undef = .pointer (some ⟨R, 0, none⟩)) (h5 : tmps.getD 5 undef = .int .i64 q) (hg : w.heap[R]? = some (.cells #[u, v] 24 (0, 0))) : (results Try.f31 tmps).run Try.prog w = .ok (.tuple #[.agg #[u, v], .int .i64 q]) w := by
  have h4' : tmps[4]?.getD undef = .pointer (some ⟨R, 0, none⟩) := by simpa using h4
  have h5' : tmps[5]?.getD undef = .int .i64 q := by simpa using h5
  have q0 := cellH hg 0
  have q1 := cellH hg 1
  simp at q0 q1
  simp [results, Try.results31, asAddr, h4', h5', q0, q1, go_sem]
/-- What Closed returns. -/
def ClosedOut (st : Int) (ls : List Lk) (c : Sp) (w : World) (e : Ending) (w' : World) : Prop :=
  ∃ (a : Int) (u : Value), e = .returned (.tuple #[.agg #[.int .i64 a, u], .int .i64 (closedE st ls c)]) ∧ Below w.heap.size w w' ∧ (closedE st ls c ≠ 0 → a = 0 ∧ u = .slice none 0 0) ∧ (closedE st ls c = 0 → a = st ∧ NRow w' u (closeL ls c))
theorem three_cells (w : World) (A B C : Array Value) (t u v : TypeId) {W : World} (hb : Below (((w.alloc (.cells A t)).alloc (.cells B u)).alloc (.cells C v)).heap.size (((w.alloc (.cells A t)).alloc (.cells B u)).alloc (.cells C v)) W) :
    W.heap[w.heap.size]? = some (.cells A t (0, 0)) ∧ W.heap[w.heap.size + 1]? = some (.cells B u (0, 0)) ∧ W.heap[w.heap.size + 2]? = some (.cells C v (0, 0)) ∧ w.heap.size + 2 < W.heap.size ∧ Below w.heap.size w W := by
  have s1 : (w.alloc (.cells A t)).heap.size = w.heap.size + 1 := by simp
  have s2 : ((w.alloc (.cells A t)).alloc (.cells B u)).heap.size = w.heap.size + 2 := by simp
  have s3 : (((w.alloc (.cells A t)).alloc (.cells B u)).alloc (.cells C v)).heap.size = w.heap.size + 3 := by simp
  refine ⟨?_, ?_, ?_, ?_, ?_⟩
  · rw [hb.block _ (by omega), gNe _ _ _ (by omega), gNe _ _ _ (by omega)]; exact heap_alloc_new _ _
  · rw [hb.block _ (by omega), gNe _ _ _ (by omega), ← s1]; exact heap_alloc_new _ _
  · rw [hb.block _ (by omega), ← s2]; exact heap_alloc_new _ _
  · have := hb.size; omega
  · exact ((((Below.refl _ w).alloc (Nat.le_refl _) _).alloc (by omega) _).alloc (by omega) _).trans (hb.mono (by omega))
theorem below_keeps {B : Nat} {A W : World} (h : Below A.heap.size A W) : KeepsFrom B A W := KeepsFrom.of_grownBy (row := none) ⟨h.os, h.tape, h.output, h.size, fun k hk _ => h.block k hk⟩ (fun j e => by cases e)
theorem any_drop (p : Lk → Bool) {l : List Lk} {k : Nat} (hk : k < l.length) : (l.drop k).any p = (p (l.getD k .nil) || (l.drop (k + 1)).any p) := by rw [ldrop_at hk]; rfl
theorem closeL_take {ls : List Lk} {c : Sp} {q : Nat} (h : q < ls.length) : closeL (ls.take (q + 1)) c = closeL (ls.take q) c ++ [closeK c (ls.getD q .nil)] := by
  unfold closeL
  rw [List.take_succ_eq_append_getElem h, List.map_append, List.getD_eq_getElem?_getD, List.getElem?_eq_getElem h]; rfl

set_option maxRecDepth 100000 in
set_option maxHeartbeats 8000000 in
theorem Closed_any (st : Int) (o : Value) (ls : List Lk) (c1 c2 : Int) (w : World) (hv : NRow w o ls) (hc : c1 ≤ 9223372036854775807 ∧ -9223372036854775808 ≤ c2) :
    Calls Try.prog 31 #[ntV st o, .agg #[.int .i64 c1, .int .i64 c2]] w fun e w' => ClosedOut st ls (c1, c2) w e w' := by
  obtain ⟨oa, oc, rfl, hlc⟩ := hv.row.form
  have HC := Lib.hid (fun w' (h : Below w.heap.size w w') => Check_any st (.slice oa ls.length oc) ls w' (hv.keep h).row (hv.keep h).op (hv.keep h).len)
  have HLC := Lib.hid hlc
  have HOP := Lib.hid hv.op
  have HA := Lib.hid (fun W' => three_cells w #[.int .i64 st, .slice oa ls.length oc] #[.int .i64 c1, .int .i64 c2] #[.int .i64 0, .slice none 0 0] 24 52 24 (W := W'))
  have HB0 := Lib.hid ((((Below.refl _ w).alloc (Nat.le_refl w.heap.size) (.cells #[.int .i64 st, .slice oa ls.length oc] 24)).alloc (by simp) (.cells #[.int .i64 c1, .int .i64 c2] 52)).alloc (by simp; omega) (.cells #[.int .i64 0, .slice none 0 0] 24))
  unfold ntV at HC ⊢
  obtain ⟨W2, hW2⟩ : ∃ W2, ((w.alloc (.cells #[.int .i64 st, .slice oa ls.length oc] 24)).alloc (.cells #[.int .i64 c1, .int .i64 c2] 52)).alloc (.cells #[.int .i64 0, .slice none 0 0] 24) = W2 := ⟨_, rfl⟩
  rw [hW2] at HA HB0
  have HW2 := Lib.hid hW2
  have ead : w.heap.size + 1 + 1 = w.heap.size + 2 := rfl
  clear hv hlc hW2
  by_cases hE : netE st ls = 0
  case neg =>
    have HV : Hid (closedE st ls (c1, c2) = netE st ls) := Lib.hid (by unfold closedE; rw [if_neg hE])
    have HE := Lib.hid hE
    have hz : (netE st ls != 0) = true := by simpa using hE
    obtain ⟨q, hq⟩ : ∃ q, netE st ls = q := ⟨_, rfl⟩
    have HQ := Lib.hid hq
    rw [hq] at HC hz
    clear hE hq
    go_enter Try.func31, Try.ntmps31
    go_wp2_with fail
    rw [HW2.out]
    refine (HC.out _ HB0.out).mono ?_
    rintro e w1 ⟨rfl, hb⟩
    obtain ⟨n0, n1, n2, hlt, hw1⟩ := HA.out w1 hb
    have r0 := cellH n2 0
    have r1 := cellH n2 1
    have f0 := freeH n2 0
    have f1 := freeH n2 1
    simp at r0 r1
    have HR : Hid (((w1.setCell ⟨w.heap.size + 2, 0, none⟩ (.int .i64 0)).setCell ⟨w.heap.size + 2, 1, none⟩ (.slice none 0 0)).heap[w.heap.size + 2]? = some (.cells #[.int .i64 0, .slice none 0 0] 24 (0, 0))) := Lib.hid (set_pair5 n2)
    have HB1 := Lib.hid ((hw1.setCell (p := ⟨w.heap.size + 2, 0, none⟩) (by simp) (.int .i64 0)).setCell (p := ⟨w.heap.size + 2, 1, none⟩) (by simp) (.slice none 0 0))
    clear hb hw1 n0 n1 n2
    go_wp2_with fail
    refine bodyPost_ret (closed_results rfl rfl HR.out) rfl ?_
    exact ⟨0, _, by rw [HV.out, HQ.out], HB1.out, fun _ => ⟨rfl, rfl⟩, fun h => absurd (HV.out.symm.trans h) HE.out⟩
  obtain ⟨s1, s10, l40, hks⟩ := netE_ok hE
  by_cases h12 : c2 < c1
  · have HV : Hid (closedE st ls (c1, c2) = 1) := Lib.hid (by unfold closedE; rw [if_pos hE, if_pos h12])
    rw [hE] at HC
    clear hE hks
    go_enter Try.func31, Try.ntmps31
    go_wp2_with fail
    rw [HW2.out]
    refine (HC.out _ HB0.out).mono ?_
    rintro e w1 ⟨rfl, hb⟩
    obtain ⟨n0, n1, n2, hlt, hw1⟩ := HA.out w1 hb
    have r0 := cellH n2 0
    have r1 := cellH n2 1
    have f0 := freeH n2 0
    have f1 := freeH n2 1
    have t0 := cellH n1 0
    have t1 := cellH n1 1
    simp at r0 r1 t0 t1
    have HR : Hid (((w1.setCell ⟨w.heap.size + 2, 0, none⟩ (.int .i64 0)).setCell ⟨w.heap.size + 2, 1, none⟩ (.slice none 0 0)).heap[w.heap.size + 2]? = some (.cells #[.int .i64 0, .slice none 0 0] 24 (0, 0))) := Lib.hid (set_pair5 n2)
    have HB1 := Lib.hid ((hw1.setCell (p := ⟨w.heap.size + 2, 0, none⟩) (by simp) (.int .i64 0)).setCell (p := ⟨w.heap.size + 2, 1, none⟩) (by simp) (.slice none 0 0))
    clear hb hw1 n0 n1 n2
    go_wp2_with fail
    refine bodyPost_ret (closed_results rfl rfl HR.out) rfl ?_
    exact ⟨0, _, by rw [HV.out], HB1.out, fun _ => ⟨rfl, rfl⟩, fun h => absurd (HV.out.symm.trans h) (by decide)⟩
  have g12 : decide (c2 < c1) = false := decide_eq_false h12
  have HV : Hid (closedE st ls (c1, c2) = if ls.any (wideB (c1, c2)) = true then 2 else 0) := Lib.hid (by unfold closedE; rw [if_pos hE, if_neg h12])
  have HKS := Lib.hid hks
  have HCB := Lib.hid hc
  have hll : (ls.length : Int) ≤ 40 := by omega
  rw [hE] at HC
  clear hE hks h12 hc l40
  refine callsIn_wide.1 (?_ : CallsIn Fence.wide 5 _ _ _ _ _)
  refine callsIn_of_wp_marks Try.func31 rfl trivial ?_ rfl
  simp only [Try.ntmps31, List.size_toArray, List.length_cons, List.length_nil, Nat.reduceAdd, Nat.reduceSub, Array.replicate_succ, Array.replicate_zero, List.push_toArray, List.append_toArray, List.nil_append, List.cons_append]
  refine wpIn_wide.2 ?_
  go_wp2_with fail
  rw [HW2.out]
  refine (HC.out _ HB0.out).mono ?_
  rintro e w1 ⟨rfl, hb⟩
  obtain ⟨n0, n1, n2, hlt, hw1⟩ := HA.out w1 hb
  have HS0 : Hid (ClS w (w1.alloc (.cells #[.int .i64 st, .slice none 0 0] 24)) w1.heap.size st (c1, c2) (.slice none 0 0) [] (closeL (ls.take 0) (c1, c2))) := Lib.hid
    ⟨hw1.alloc hw1.size _, (gNe _ _ _ (by omega)).trans n1, (gNe _ _ _ (by omega)).trans n2, ⟨hlt, by simp⟩, heap_alloc_new _ _, World.ownsRow_nil _ _ _ _, fun i hi => by simp [closeL] at hi⟩
  have q0 := cellH n0 0
  have q1 := cellH n0 1
  have t0 := cellH n1 0
  have t1 := cellH n1 1
  simp at q0 q1 t0 t1
  have hlt0 : w.heap.size < w1.heap.size := by omega
  have hne0 : w.heap.size ≠ w1.heap.size := by omega
  clear hb hw1 n0 n1 n2
  go_wp2_with fail
  obtain ⟨X, hX⟩ : ∃ X, w1.heap.size = X := ⟨_, rfl⟩
  rw [hX] at HS0
  rw [hX]
  clear hX
  refine wp_loop (fun a' W => ∃ (k : Nat) (marks : List Nat) (u : Value) (xs : List Value) (u9 u10 u11 u31 u32 u33 u34 u35 u36 u37 u38 u39 u40 u41 u42 u43 u44 u45 u46 u47 u48 u49 u50 u51 u52 u53 u54 u55 u56 u57 u58 u59 u60 : Value), k ≤ ls.length ∧ a' = { tmps := #[.agg #[.int .i64 st, .slice oa ls.length oc], .agg #[.int .i64 c1, .int .i64 c2], .pointer (some ⟨w.heap.size, 0, none⟩), .pointer (some ⟨w.heap.size + 1, 0, none⟩), .pointer (some ⟨w.heap.size + 2, 0, none⟩), .int .i64 0, .int .i64 0, .pointer (some ⟨X, 0, none⟩), undef, u9, u10, u11, .agg #[.int .i64 st, .slice oa ls.length oc], .int .i64 0, .int .i64 0, .bool false, undef, undef, .pointer (some ⟨w.heap.size + 1, 0, none⟩), .int .i64 c1, .pointer (some ⟨w.heap.size + 1, 1, none⟩), .int .i64 c2, .bool false, undef, .pointer (some ⟨w.heap.size, 0, none⟩), .int .i64 st, .agg #[.int .i64 st, .slice none 0 0], .pointer (some ⟨w.heap.size, 1, none⟩), .slice oa ls.length oc, .int .i64 ls.length, .int .i64 (k : Int), u31, u32, u33, u34, u35, u36, u37, u38, u39, u40, u41, u42, u43, u44, u45, u46, u47, u48, u49, u50, u51, u52, u53, u54, u55, u56, u57, u58, u59, u60, undef], defers := marks.map fun D => { target := .collected D, args := #[] } } ∧ marks.Nodup ∧ (∀ D ∈ marks, w.heap.size ≤ D ∧ W.heap[D]? = some (.deferred (some []))) ∧ Hid (ClS w W X st (c1, c2) u xs (closeL (ls.take k) (c1, c2))) ∧ Hid (ls.any (wideB (c1, c2)) = (ls.drop k).any (wideB (c1, c2)))) (fun a' _ => ls.length - (intOf (a'.tmps.getD 30 undef)).toNat) ?start ?round
  case start => exact ⟨0, [], _, [], undef, undef, undef, undef, undef, undef, undef, undef, undef, undef, undef, undef, undef, undef, undef, undef, undef, undef, undef, undef, undef, undef, undef, undef, undef, undef, undef, undef, undef, undef, undef, undef, undef, Nat.zero_le _, rfl, List.nodup_nil, (fun D h => by cases h), HS0, Lib.hid rfl⟩
  case round =>
    clear HS0 q0 q1 t0 t1 hlt hlt0 hne0
    rintro a' W ⟨k, marks, u, xs, u9, u10, u11, u31, u32, u33, u34, u35, u36, u37, u38, u39, u40, u41, u42, u43, u44, u45, u46, u47, u48, u49, u50, u51, u52, u53, u54, u55, u56, u57, u58, u59, u60, hk, rfl, hnd, hm, hSt, hP⟩
    by_cases hkl : k < ls.length
    · have HKL := Lib.hid hkl
      obtain ⟨b, off, rfl, hb, d0, d1, d2, ov, d3, hsp⟩ := HLC.out k hkl
      have hki : (k : Int) < ls.length := by omega
      have hk0 : (0 : Int) ≤ k := by omega
      have hBw := hSt.out.below
      have e0 := (hBw.cell (p := ⟨b, _, none⟩) hb).trans d0
      have e1 := (hBw.cell (p := ⟨b, _, none⟩) hb).trans d1
      have e2 := (hBw.cell (p := ⟨b, _, none⟩) hb).trans d2
      have e3 := (hBw.cell (p := ⟨b, _, none⟩) hb).trans d3
      obtain ⟨_, _, hl12, hok⟩ := linkE_ok (HKS.out _ (lk_mem hkl)).2
      have hsp1 := hsp.keep hBw
      have hAny := any_drop (wideB (c1, c2)) hkl
      have hTake := closeL_take (c := (c1, c2)) hkl
      obtain ⟨x, hx⟩ : ∃ x, ls.getD k .nil = x := ⟨_, rfl⟩
      rw [hx] at e0 e1 e2 hl12 hok hsp1 hAny hTake
      obtain ⟨fr, to, dl, op⟩ := x
      simp only at e0 e1 e2 hl12 hok
      have hbd : ∀ s ∈ op, 0 ≤ s.1 ∧ s.1 ≤ s.2 ∧ s.2 ≤ 1048576 := fun s hs => by have := okS_bd _ _ hok s hs; omega
      obtain ⟨f1, f2⟩ := hSt.out.far
      obtain ⟨sa, sc, bo, rfl, hbo, hh3⟩ := sp_blocks hsp1 (p := X) f2
      have t0 : W.cell? ⟨w.heap.size + 1, 0, none⟩ = some (.int .i64 c1) := cellH hSt.out.sb 0
      have t1 : W.cell? ⟨w.heap.size + 1, 1, none⟩ = some (.int .i64 c2) := cellH hSt.out.sb 1
      have hws : w.heap.size + 1 < W.heap.size := by omega
      have hwn : w.heap.size + 1 ≠ W.heap.size := by omega
      have hwn2 : w.heap.size ≠ W.heap.size := by omega
      have hwl2 : w.heap.size < W.heap.size := by omega
      have HBO := Lib.hid hbo
      have HH3 := Lib.hid hh3
      have HBD := Lib.hid hbd
      have HL12 := Lib.hid hl12
      have HAny := Lib.hid hAny
      have HTake := Lib.hid hTake
      have HND := Lib.hid hnd
      have HM := Lib.hid hm
      clear hb d0 d1 d2 d3 hsp hx hok hsp1 hAny hTake hbd hbo hh3 hl12 hBw hnd hm
      go_wp2_with fail
      refine (parts_any _ _ _ _ _ _).mono ?_
      rintro e w5 ⟨rfl, rfl⟩
      go_wp2_with fail
      have hW3s : ((((W.alloc (.cells #[.int .i64 fr, .int .i64 to, .int .i64 dl, .slice sa op.length sc] 27)).alloc (.cells #[.slice none 0 0] 25)).alloc (.cells #[.slice sa op.length sc] 25)).alloc (.cells #[.int .i64 c1, .int .i64 c2] 52)).heap.size = W.heap.size + 4 := by simp
      obtain ⟨g0, g1, g2, g3⟩ := heap4 W (.cells #[.int .i64 fr, .int .i64 to, .int .i64 dl, .slice sa op.length sc] 27) (.cells #[.slice none 0 0] 25) (.cells #[.slice sa op.length sc] 25) (.cells #[.int .i64 c1, .int .i64 c2] 52)
      have hB3 := below4 W (.cells #[.int .i64 fr, .int .i64 to, .int .i64 dl, .slice sa op.length sc] 27) (.cells #[.slice none 0 0] 25) (.cells #[.slice sa op.length sc] 25) (.cells #[.int .i64 c1, .int .i64 c2] 52)
      obtain ⟨W3, hW3⟩ : ∃ W3, (((W.alloc (.cells #[.int .i64 fr, .int .i64 to, .int .i64 dl, .slice sa op.length sc] 27)).alloc (.cells #[.slice none 0 0] 25)).alloc (.cells #[.slice sa op.length sc] 25)).alloc (.cells #[.int .i64 c1, .int .i64 c2] 52) = W3 := ⟨_, rfl⟩
      rw [hW3] at hW3s g0 g1 g2 g3 hB3
      rw [hW3]
      have HB3 := Lib.hid hB3
      have HG0 := Lib.hid g0
      have HW3s := Lib.hid hW3s
      have hown : ownB W3 (W.heap.size + 1) = none := by unfold ownB; rw [cellH g1 0]; rfl
      have hSt5 : St5 (W.heap.size + 1) (W.heap.size + 1 + 1) (W.heap.size + 1 + 1 + 1) bo sa sc op (c1, c2) W3 := ⟨g2, g3, fun i hi => by
          obtain ⟨o1, C, ty, fz, q0, q1, q2, q3⟩ := HH3.out i hi
          exact ⟨o1, C, ty, fz, q0, (hB3.block _ HBO.out).trans q1, q2, q3⟩, by omega, by have := HBO.out; omega, fun g hg => (by rw [hown] at hg; cases hg), ⟨by omega, by omega, by have := HBO.out; omega⟩⟩
      have HS5 := Lib.hid hSt5
      have HG1 : Hid (Boxed W3 (W.heap.size + 1) 25 (.slice none 0 0)) := Lib.hid g1
      clear hW3 g0 g1 g2 g3 hB3 hown hSt5 hW3s t0 t1
      refine wpIn_wide.1 (?_ : Code.wpIn Fence.wide 5 _ _ _ _ _)
      refine rangeA (n := 5) (gf := 53) (lb := #[.pointer (some ⟨W.heap.size + 1 + 1, 0, none⟩), .pointer (some ⟨W.heap.size + 1 + 1 + 1, 0, none⟩)]) rfl (enters_of Try.func53 (by kernel_rfl) rfl)
        (parts1_seq 4 (W.heap.size + 1) (W.heap.size + 1 + 1) (W.heap.size + 1 + 1 + 1) bo sa sc op (c1, c2) HL12.out HBD.out HCB.out) ?st (fun A B h => below_keeps h) (fun _ _ _ h k => h.trans k) ?kb (fun _ => rfl)
        (fun pre Y => RgI W3 W3.heap.size (W.heap.size + 1) pre Y) (fun _ _ _ => False) ?i (fun _ _ _ _ _ h _ _ => h) (fun s A B h k => h.below (by have := HW3s.out; omega) k) (fun _ _ _ _ h _ => h) ?h0
        (fun x a' Y => ∃ p, a' = { tmps := #[.agg #[.int .i64 st, .slice (some ⟨b, off, none⟩) ls.length oc], .agg #[.int .i64 c1, .int .i64 c2], .pointer (some ⟨w.heap.size, 0, none⟩), .pointer (some ⟨w.heap.size + 1, 0, none⟩), .pointer (some ⟨w.heap.size + 2, 0, none⟩), .int .i64 0, .int .i64 0, .pointer (some ⟨X, 0, none⟩), undef, .pointer (some ⟨W.heap.size, 0, none⟩), .pointer (some ⟨W.heap.size + 1, 0, none⟩), .pointer (some ⟨p, 0, none⟩), .agg #[.int .i64 st, .slice (some ⟨b, off, none⟩) ls.length oc], .int .i64 0, .int .i64 0, .bool false, undef, undef, .pointer (some ⟨w.heap.size + 1, 0, none⟩), .int .i64 c1, .pointer (some ⟨w.heap.size + 1, 1, none⟩), .int .i64 c2, .bool false, undef, .pointer (some ⟨w.heap.size, 0, none⟩), .int .i64 st, .agg #[.int .i64 st, .slice none 0 0], .pointer (some ⟨w.heap.size, 1, none⟩), .slice (some ⟨b, off, none⟩) ls.length oc, .int .i64 ls.length, .int .i64 (k : Int), .bool true, .pointer (some ⟨b, off + k * 4, none⟩), .agg #[.int .i64 fr, .int .i64 to, .int .i64 dl, .slice sa op.length sc], .pointer (some ⟨W.heap.size, 3, none⟩), .slice sa op.length sc, .agg #[.int .i64 c1, .int .i64 c2], .func (.func 53) #[] #[.pointer (some ⟨W.heap.size + 1 + 1, 0, none⟩), .pointer (some ⟨W.heap.size + 1 + 1 + 1, 0, none⟩)], .agg #[.int .i64 x.1, .int .i64 x.2], u39, u40, u41, u42, u43, u44, u45, u46, u47, u48, u49, u50, u51, u52, u53, u54, u55, u56, u57, u58, u59, u60, undef], defers := [] } ∧ Y.heap[p]? = some (.cells #[.int .i64 x.1, .int .i64 x.2] 52 (0, 0)) ∧ W3.heap.size ≤ p) ?hv ?assign ?body ?done (fun _ _ _ _ _ _ h => h.elim)
      case st => exact fun o o' => HS5.out.below (((Below.refl _ W3).alloc (Nat.le_refl _) o).alloc (by simp) o')
      case kb =>
        intro Y l' ob ob' hl h hc _
        refine ⟨by simp, fun b' C t' fr' hb' _ _ => World.putObj_heap_other (fun q => by rw [q, h] at hb'; cases hb'; cases hc), fun g hg => .inl ?_⟩
        rw [ownB_same (World.putObj_heap_other (by have := HW3s.out; omega))] at hg
        exact hg
      case i => exact fun s A B row h hg hr => h.grown (by have := HW3s.out; omega) hg hr
      case hv =>
        rintro x a' _ A B row ⟨p, h1, h2, h3⟩ hg hr
        refine ⟨p, h1, (hg.block p (Array.getElem?_eq_some_iff.1 h2).1 (fun q => ?_)).trans h2, h3⟩
        obtain ⟨_, ob, ho, hoc⟩ := hr p q.symm
        rw [h2] at ho; cases ho; cases hoc
      case h0 => exact ⟨⟨fun _ _ _ => rfl, Nat.le_refl _, rfl, rfl, rfl⟩, _, HG1.out, World.ownsRow_nil _ _ _ _⟩
      case assign =>
        intro l' pre x Y K hI hK
        gi_wp2
        have hbY : Below Y.heap.size Y (Y.alloc (.cells #[.int .i64 x.1, .int .i64 x.2] 52)) := (Below.refl _ Y).alloc (Nat.le_refl _) _
        have hn0 := hI.1.2.1
        refine hK _ _ hbY ?_ ⟨Y.heap.size, rfl, heap_alloc_new _ _, hn0⟩
        refine ⟨hbY.size, fun b' C t' fr' hb' _ _ => hbY.block _ (Array.getElem?_eq_some_iff.1 hb').1, fun g hg => .inl ?_⟩
        rw [ownB_same (hbY.block _ (by have := HW3s.out; omega))] at hg
        exact hg
      case body =>
        rintro l' pre x a' Y ⟨h1, v, hv, hrow⟩ ⟨p, rfl, hp, hpn⟩ hlt
        have hc := hv.cell
        have hp0 : Y.cell? ⟨p, 0, none⟩ = some (.int .i64 x.1) := cellH hp 0
        have hp1 : Y.cell? ⟨p, 1, none⟩ = some (.int .i64 x.2) := cellH hp 1
        obtain ⟨i0, hi0, hz0, hz1, hz2⟩ := info_parts info_s
        have hlp := partsL_len (c1, c2) op
        have hl24 : pre.length < 24 := by have := HL12.out; omega
        have hn0 := h1.2.1
        have heq : W.heap.size + 1 < W3.heap.size := by have := HW3s.out; omega
        have H1 := Lib.hid h1
        have HP := Lib.hid hp
        clear hlp h1 hlt hp
        gi_wp2_with (gi_at_builtin; refine wpListIn_append_own_at _ rfl _ _ 25 rfl W3.heap.size 52 i0 (.agg #[.int .i64 0, .int .i64 0]) 2 16 Try.underlying25 hi0 hz0 hz1 hz2 rfl (by decide) _ _ _ rfl (hrow.alloc _) ⟨Y.heap.size, 0, none⟩ 1 1 [.int .i64 x.1, .int .i64 x.2] rfl rfl (fun j u h => cell_two' _ _ _ _ j u h) (by simp [Value.oneCell']) (by unfold maxLen; omega) (by omega) (by simp; omega) ?_; intro v' w1 hown' hgrow _ hat; obtain ⟨g', cap', rfl⟩ := ownsRow_succ hown'; obtain ⟨r1, r2, r3, r4⟩ := RgI.appended H1.out hv hrow heq hown' hgrow hat; have hc1 := r4.cell; have hf1 := r4.frozen)
        exact ⟨r1, r2, r3⟩
      case done =>
        rintro D xs2 Y hD hxs ⟨⟨h1, hn0, ho1, ho2, ho3⟩, v, hv, hrow⟩ hK
        have hxs : xs2 = partsL op (c1, c2) := hxs
        subst hxs
        have hBY : Below W.heap.size W Y := ⟨ho1.trans HB3.out.os, ho2.trans HB3.out.tape, ho3.trans HB3.out.output, by have := HW3s.out; omega, fun b' hb' => (h1 b' (by have := HW3s.out; omega) (by omega)).trans (HB3.out.block b' hb')⟩
        have hS := hSt.out.keep hBY
        have hor := OpenRow.of_own hrow
        obtain ⟨ho1c, va, vc, rfl⟩ := hor.one
        have hlink : Y.heap[W.heap.size]? = some (.cells #[.int .i64 fr, .int .i64 to, .int .i64 dl, .slice sa op.length sc] 27 (0, 0)) := (h1 _ (by have := HW3s.out; omega) (by omega)).trans HG0.out
        have l0 : Y.cell? ⟨W.heap.size, 0, none⟩ = some (.int .i64 fr) := cellH hlink 0
        have l1 : Y.cell? ⟨W.heap.size, 1, none⟩ = some (.int .i64 to) := cellH hlink 1
        have l2 : Y.cell? ⟨W.heap.size, 2, none⟩ = some (.int .i64 dl) := cellH hlink 2
        have hc := hv.cell
        have HM4 : Hid (∀ D' ∈ D :: marks, w.heap.size ≤ D' ∧ Y.heap[D']? = some (.deferred (some []))) := Lib.hid (by
          intro D' hD'
          rcases List.mem_cons.1 hD' with rfl | h
          · exact ⟨by have := HW3s.out; have := hSt.out.below.size; omega, hK⟩
          · obtain ⟨m1, m2⟩ := HM.out D' h
            exact ⟨m1, (hBY.block D' (Array.getElem?_eq_some_iff.1 m2).1).trans m2⟩)
        have HN4 : Hid ((D :: marks).Nodup) := Lib.hid (List.nodup_cons.2 ⟨fun h => by
          have := (Array.getElem?_eq_some_iff.1 (HM.out D h).2).1
          have := HW3s.out
          omega, HND.out⟩)
        have HSY := Lib.hid hS
        have HOR := Lib.hid hor
        have HONE := Lib.hid ho1c
        clear h1 ho1 ho2 ho3 hrow hK hBY hS hor hv hlink ho1c
        simp only [Exit.inBlock, Exit.then]
        by_cases h13 : 12 < (partsL op (c1, c2)).length
        · have g13 : (12 : Int) < (partsL op (c1, c2)).length := by omega
          have HCE : Hid (closedE st ls (c1, c2) = 2) := Lib.hid (by
            rw [HV.out, hP.out, HAny.out]
            unfold wideB
            rw [decide_eq_true h13]; rfl)
          have r0 := cellH HSY.out.rb 0
          have r1 := cellH HSY.out.rb 1
          have f0 := freeH HSY.out.rb 0
          have f1 := freeH HSY.out.rb 1
          simp at r0 r1
          have HR : Hid (((Y.setCell ⟨w.heap.size + 2, 0, none⟩ (.int .i64 0)).setCell ⟨w.heap.size + 2, 1, none⟩ (.slice none 0 0)).heap[w.heap.size + 2]? = some (.cells #[.int .i64 0, .slice none 0 0] 24 (0, 0))) := Lib.hid (set_pair5 HSY.out.rb)
          have HB1 := Lib.hid ((HSY.out.below.setCell (p := ⟨w.heap.size + 2, 0, none⟩) (by simp) (.int .i64 0)).setCell (p := ⟨w.heap.size + 2, 1, none⟩) (by simp) (.slice none 0 0))
          have HM5 : Hid (∀ D' ∈ D :: marks, w.heap.size ≤ D' ∧ ((Y.setCell ⟨w.heap.size + 2, 0, none⟩ (.int .i64 0)).setCell ⟨w.heap.size + 2, 1, none⟩ (.slice none 0 0)).heap[D']? = some (.deferred (some []))) := Lib.hid (fun D' hD' => by
            obtain ⟨m1, m2⟩ := HM4.out D' hD'
            have hne : D' ≠ w.heap.size + 2 := fun q => by rw [q, HSY.out.rb] at m2; cases m2
            exact ⟨m1, by rw [heap_other _ _ _ _ _ hne, heap_other _ _ _ _ _ hne]; exact m2⟩)
          clear h13
          go_wp2_with fail
          try rw [Exit.noGoto_ret]
          exact leaves_marks5 (F := Fence.wide) (n := 5) w.heap.size (D :: marks) _ HN4.out HM5.out (fun W' hk hb' => ⟨_, closed_results rfl rfl (hk.2 _ _ _ _ HR.out), 0, _, by rw [HCE.out], HB1.out.trans hb', fun _ => ⟨rfl, rfl⟩, fun h => absurd (HCE.out.symm.trans h) (by decide)⟩)
        · have g13 : ¬ (12 : Int) < (partsL op (c1, c2)).length := by omega
          have HP2 : Hid (ls.any (wideB (c1, c2)) = (ls.drop (k + 1)).any (wideB (c1, c2))) := Lib.hid (by
            rw [hP.out, HAny.out]
            unfold wideB
            rw [decide_eq_false h13]; rfl)
          obtain ⟨i0, hi0, hz0, hz1, hz2⟩ := info_parts info_l
          have x1 := cellH HSY.out.ob 1
          simp at x1
          have hlen := closeL_len (ls.take k) (c1, c2)
          have hlk : (closeL (ls.take k) (c1, c2)).length ≤ 40 := by
            rw [hlen, List.length_take]; omega
          have hfx := HSY.out.far.2
          have hrw := HSY.out.row
          clear h13 hlen
          go_wp2_with (at_builtin; refine wpList_append_own _ rfl _ _ 22 rfl (X + 1) 27 i0 (.agg #[.int .i64 0, .int .i64 0, .int .i64 0, .slice none 0 0]) 4 48 Try.underlying22 hi0 hz0 hz1 hz2 rfl (by decide) _ _ _ rfl (World.ownsRow.alloc hrw _) ⟨Y.heap.size, 0, none⟩ 1 1 [.int .i64 fr, .int .i64 to, .int .i64 dl, .slice va (partsL op (c1, c2)).length vc] rfl rfl (fun j u h => cell_four _ _ _ _ _ _ j u h) (by simp [Value.oneCell']) (by unfold maxLen; omega) (by omega) (by simp; omega) ?_; intro v' w1 hown' hgrow _; obtain ⟨g', cap', rfl⟩ := ownsRow_succ hown'; obtain ⟨z1, z2, z3⟩ := HSY.out.append (k := ⟨fr, to, dl, partsL op (c1, c2)⟩) HOR.out hown' hgrow; have y1 := cellH z3 1; have y2 := freeH z3 1; simp at y1)
          exact ⟨⟨k + 1, HKL.out, D :: marks, ⟨by simp, rfl⟩, HN4.out, fun D' hD' => ⟨(HM4.out D' hD').1, z2 D' _ (HM4.out D' hD').2 rfl⟩, ⟨_, _, Lib.hid (by rw [HTake.out]; exact z1)⟩, HP2⟩, by have := HKL.out; simp [intOf]; omega⟩
    · obtain rfl : k = ls.length := by omega
      have HCE : Hid (closedE st ls (c1, c2) = 0) := Lib.hid (by rw [HV.out, hP.out, List.drop_length]; rfl)
      have hS := hSt.out
      rw [List.take_length] at hS
      obtain ⟨ua, un, uc, rfl⟩ : ∃ a n c, u = .slice a n c := by
        rcases hS.row.2 with ⟨q, _⟩ | ⟨g, cap, cur, q, _⟩
        · exact ⟨_, _, _, q⟩
        · exact ⟨_, _, _, q⟩
      have hf := hS.far
      have HB1 := Lib.hid ((hS.below.setCell (p := ⟨w.heap.size + 2, 0, none⟩) (by simp) (.int .i64 st)).setCell (p := ⟨w.heap.size + 2, 1, none⟩) (by simp) (.slice ua un uc))
      have HR : Hid (((W.setCell ⟨w.heap.size + 2, 0, none⟩ (.int .i64 st)).setCell ⟨w.heap.size + 2, 1, none⟩ (.slice ua un uc)).heap[w.heap.size + 2]? = some (.cells #[.int .i64 st, .slice ua un uc] 24 (0, 0))) := Lib.hid (set_pair5 hS.rb)
      have HN : Hid (NRow ((W.setCell ⟨w.heap.size + 2, 0, none⟩ (.int .i64 st)).setCell ⟨w.heap.size + 2, 1, none⟩ (.slice ua un uc)) (.slice ua un uc) (closeL ls (c1, c2))) := Lib.hid (NRow.of_links
        (ownsRow_setCell_below (ownsRow_setCell_below hS.row (a := ⟨w.heap.size + 2, 0, none⟩) (by simp only; omega) _) (a := ⟨w.heap.size + 2, 1, none⟩) (by simp only; omega) _)
        (hS.lks.keep (fun b C fr hh => by
          have hne : b ≠ w.heap.size + 2 := fun q => by rw [q, hS.rb] at hh; cases hh
          rw [heap_other _ _ _ _ _ hne, heap_other _ _ _ _ _ hne]; exact hh))
        (fun k hk => by
          unfold closeL at hk
          obtain ⟨y, hy, rfl⟩ := List.mem_map.1 hk
          have h1 := (linkE_ok (HKS.out y hy).2).2.2.1
          have h2 := partsL_len (c1, c2) y.op
          show (partsL y.op (c1, c2)).length ≤ _
          omega) (by rw [closeL_len]; omega))
      have HM5 : Hid (∀ D' ∈ marks, w.heap.size ≤ D' ∧ ((W.setCell ⟨w.heap.size + 2, 0, none⟩ (.int .i64 st)).setCell ⟨w.heap.size + 2, 1, none⟩ (.slice ua un uc)).heap[D']? = some (.deferred (some []))) := Lib.hid (fun D' hD' => by
        obtain ⟨m1, m2⟩ := hm D' hD'
        have hne : D' ≠ w.heap.size + 2 := fun q => by rw [q, hS.rb] at m2; cases m2
        exact ⟨m1, by rw [heap_other _ _ _ _ _ hne, heap_other _ _ _ _ _ hne]; exact m2⟩)
      have x0 := cellH hS.ob 0
      have x1 := cellH hS.ob 1
      have r0 := cellH hS.rb 0
      have r1 := cellH hS.rb 1
      have f0 := freeH hS.rb 0
      have f1 := freeH hS.rb 1
      simp at x0 x1 r0 r1
      have HND := Lib.hid hnd
      clear hm hnd hS hf hkl
      go_wp2_with fail
      try rw [Exit.noGoto_ret]
      exact leaves_marks5 (F := Fence.wide) (n := 5) w.heap.size marks _ HND.out HM5.out (fun W' hk hb' => ⟨_, closed_results rfl rfl (hk.2 _ _ _ _ HR.out), st, _, by rw [HCE.out], HB1.out.trans hb', fun h => absurd HCE.out h, fun _ => ⟨rfl, HN.out.kc5 hk⟩⟩)
end Go.Proofs.Ytiboolbndfhomaa
